/- Dd3, laid in one text. -/
import Derived.Laws.StructEq
import Derived.Deep.QuietTactic
import Derived.BigQuiet
import Derived.Sort.OwnSorted
import Derived.Maps.Ext
import Derived.Test.YtpaoimhebheaeaaGreatDoorMg02
namespace Go.Proofs.YtpaoimhebheaeaaGreatDoor.Dk
open Go.RowKit Go.Maps Go.WideMaps Go.WideElems
set_option maxRecDepth 100000
open Go.RowKit Go.Maps Go.WideMaps Go.WideElems Go.Sort Go.Shelf

set_option maxHeartbeats 1000000 in
theorem Rename_any {B : Nat} {w : World} {d mb n : Nat} {rv : Value} {x : Ab} {m : Int} (h : Fit B w d mb n rv x m) (s t : ByteArray) :
    Calls Tryz.prog 70 #[.pointer (some ⟨d, 0, none⟩), .string s, .string t] w fun e w' => e = .returned (.int .i64 (renameD x s t).1) ∧ After B w w' d mb n rv (renameD x s t).2 := by
  have hwf := wf_two h s t
  by_cases h0 : (writeD x.left [s, t] != 0) = true
  · have HE : Hid (renameD x s t = (writeD x.left [s, t], x)) := by unfold Hid renameD; rw [if_pos h0]
    have HD : Hid (IsDisk B w d mb n rv x) := h.disk
    clear h
    generalize writeD x.left [s, t] = e0 at *
    go_enter Tryz.func70, Tryz.ntmps70
    go_wp2_with (go_at_call 104; refine hwf.mono ?_; rintro e w1 ⟨rfl, hb⟩)
    go_ret
    rw [HE.out]
    exact ⟨rfl, After.same HD.out hb⟩
  rw [Bool.not_eq_true] at h0
  have hoks : okPath s = true ∧ okPath t = true := by simpa using writeD_ok h0
  obtain ⟨hok, hokt⟩ := hoks
  have HRD : Hid (∀ w1, Below w.heap.size w w1 → Calls Tryz.prog 27 #[.pointer (some ⟨d, 0, none⟩), .string s] w1 fun e w' => e = .returned (.tuple #[.string (readT x.D s), .int .i64 (readE x.D s)]) ∧ Below w1.heap.size w1 w') :=
    fun w1 hb => Read_any (h.disk.below hb) s m (cell_below h.max hb) (okPath_size hok)
  have HPF : Hid (∀ w1, Below w.heap.size w w1 → Calls Tryz.prog 106 #[.pointer (some ⟨d, 0, none⟩), .string t] w1 fun e w' => e = .returned (.int .i64 (fileD x.D t)) ∧ Below w1.heap.size w1 w') :=
    fun w1 hb => fileFault_any (h.disk.below hb) t hokt
  have HKY : Hid (keyOf Tryz.prog 9 (.string s) = some (keyD s)) := keyOf_str (okPath_size hok)
  have HKT : Hid (keyOf Tryz.prog 9 (.string t) = some (keyD t)) := keyOf_str (okPath_size hokt)
  have HZ : Hid ((readT x.D s).size ≤ maxLen) := readT_size h.disk (okPath_size hok)
  have HF : Hid (Fit B w d mb n rv x m) := h
  have HOK : Hid (okPath t = true) := hokt
  clear h hok hokt
  by_cases h1 : (readE x.D s != 0) = true
  · have HE : Hid (renameD x s t = (readE x.D s, x)) := by unfold Hid renameD; rw [if_neg (by rw [h0]; decide), if_pos h1]
    generalize writeD x.left [s, t] = e0 at *
    generalize readE x.D s = e1 at *
    generalize readT x.D s = u at *
    go_enter Tryz.func70, Tryz.ntmps70
    go_wp2_with (first
      | (go_at_call 104; refine hwf.mono ?_; rintro e w1 ⟨rfl, hb⟩)
      | (go_at_call 27; refine (HRD.out _ hb).mono ?_; rintro e w2 ⟨rfl, hb2⟩))
    go_ret
    rw [HE.out]
    exact ⟨rfl, After.same HF.out.disk (hb.trans (hb2.mono hb.size))⟩
  rw [Bool.not_eq_true] at h1
  by_cases h2 : (fileD x.D t != 0) = true
  · have HE : Hid (renameD x s t = (fileD x.D t, x)) := by unfold Hid renameD; rw [if_neg (by rw [h0]; decide), if_neg (by rw [h1]; decide), if_pos h2]
    generalize writeD x.left [s, t] = e0 at *
    generalize readE x.D s = e1 at *
    generalize readT x.D s = u at *
    generalize fileD x.D t = e2 at *
    go_enter Tryz.func70, Tryz.ntmps70
    go_wp2_with (first
      | (go_at_call 104; refine hwf.mono ?_; rintro e w1 ⟨rfl, hb⟩)
      | (go_at_call 27; refine (HRD.out _ hb).mono ?_; rintro e w2 ⟨rfl, hb2⟩; have hb12 := hb.trans (hb2.mono hb.size))
      | (go_at_call 106; refine (HPF.out _ hb12).mono ?_; rintro e w3 ⟨rfl, hb3⟩))
    go_ret
    rw [HE.out]
    exact ⟨rfl, After.same HF.out.disk (hb12.trans (hb3.mono hb12.size))⟩
  rw [Bool.not_eq_true] at h2
  have HE : Hid (renameD x s t = (0, noteAb { D := (x.D.del (keyD s)).put (keyD t) (itemD false (readT x.D s)), rs := x.rs, left := x.left } (3, s, t))) := by
    unfold Hid renameD; rw [if_neg (by rw [h0]; decide), if_neg (by rw [h1]; decide), if_neg (by rw [h2]; decide)]
  generalize writeD x.left [s, t] = e0 at *
  generalize readE x.D s = e1 at *
  generalize readT x.D s = u at *
  generalize fileD x.D t = e2 at *
  go_enter Tryz.func70, Tryz.ntmps70
  go_wp2_with (first
    | (go_at_call 104; refine hwf.mono ?_; rintro e w1 ⟨rfl, hb⟩)
    | (go_at_call 27; refine (HRD.out _ hb).mono ?_; rintro e w2 ⟨rfl, hb2⟩; have hb12 := hb.trans (hb2.mono hb.size))
    | (go_at_call 106; refine (HPF.out _ hb12).mono ?_; rintro e w3 ⟨rfl, hb3⟩; have hb13 := hb12.trans (hb3.mono hb12.size); have c0 := (HF.out.disk.below hb13).c0)
    | (at_delete; refine wpList_delete_own _ rfl _ _ 60 9 rfl 88 keyed Tryz.underlying60 _ mb n x.D rfl (HF.out.disk.below hb13).own _ _ rfl HKY.out ?_; intro w4 hown4 ht4; have hg4 := ht4.grown; have HT4 := turned (HF.out.disk.below hb13) hown4 hg4 (keys_del HF.out.disk.keys); have c0' := HT4.1.c0; clear ht4)
    | (at_mapUpdate; refine wpList_mapUpdate_own _ rfl _ _ _ 60 rfl 9 88 keyed Tryz.underlying60 _ mb n _ rfl hown4 (by have := HF.out.room; unfold maxLen; omega) _ _ _ rfl rfl HKT.out _ [] (itemR_mk HZ.out) ?_; intro w5 hown5 hg5)
    | (go_at_call 105; refine (note_at HF.out _ _ _ _ _ _ (Nat.le_trans (Nat.le_trans hb13.size hg4.size) hg5.size) (turned HT4.1 hown5 hg5 (keys_put HOK.out HT4.1.keys)).1).mono ?_; rintro e w6 ⟨rfl, ha⟩))
  go_ret
  rw [HE.out]
  exact ⟨rfl, After.from (((Upd.of_below hb13).trans HT4.2 (fun _ _ f => f)).trans (turned HT4.1 hown5 hg5 (keys_put HOK.out HT4.1.keys)).2 (fun _ _ f => f)) ha (Nat.le_refl _)⟩

theorem Fit.below {B : Nat} {w w' : World} {d mb n : Nat} {rv : Value} {x : Ab} {m : Int} (h : Fit B w d mb n rv x m) (hb : Below w.heap.size w w') : Fit B w' d mb n rv x m :=
  { disk := h.disk.below hb, max := cell_below h.max hb, room := h.room, len := h.len, lo := h.lo, hi := h.hi, base := Nat.le_trans h.base hb.size }

theorem After.ahead {B : Nat} {w w1 w' : World} {d mb n : Nat} {rv : Value} {x' : Ab} (hb : Below w.heap.size w w1) (h : After B w1 w' d mb n rv x') : After B w w' d mb n rv x' := by
  obtain ⟨n', rv', h1, h2, h3, h4⟩ := h
  exact ⟨n', rv', h1, h2, (Upd.of_below hb).trans h3 (fun _ _ f => f), fun j hj => (h4 j hj).imp id (fun q => Nat.le_trans hb.size q)⟩

theorem row_cells {w : World} {B : Nat} {e : TypeId} {size n g cap : Nat} {xs : List Value} (h : w.ownsRow B e size (.slice (some ⟨g, 0, none⟩) n cap) n xs) : ∀ j u, xs[j]? = some u → w.cell? ⟨g, j, none⟩ = some u := by
  intro j u hu
  rcases h.2 with ⟨hc, _⟩ | ⟨g', cap', cur, hv, _, hh, _, _, _, ht⟩
  · cases hc
  · cases hv
    rw [← ht] at hu
    have hj : j < n * size := by
      have := (List.getElem?_eq_some_iff.1 hu).1
      rw [List.length_take] at this; omega
    rw [List.getElem?_take_of_lt hj] at hu
    unfold World.cell?
    simp only [hh]
    rw [← Array.getElem?_toList]; exact hu

theorem rawCells_length (rs : List (Int × ByteArray × ByteArray)) : (rawCells rs).length = rs.length * 3 := by
  induction rs with
  | nil => rfl
  | cons r rs ih => unfold rawCells at *; simp only [List.flatMap_cons, List.length_append, List.length_cons, List.length_nil, ih]; omega

theorem rawCells_one {rs : List (Int × ByteArray × ByteArray)} : ∀ u ∈ rawCells rs, u.oneCell' = true := by
  intro u hu
  unfold rawCells at hu
  rw [List.mem_flatMap] at hu
  obtain ⟨r, _, hu⟩ := hu
  simp only [List.mem_cons, List.not_mem_nil, or_false] at hu
  rcases hu with rfl | rfl | rfl <;> rfl

set_option maxHeartbeats 400000 in
theorem Raws_any {B : Nat} {w : World} {d mb n : Nat} {rv : Value} {x : Ab} (h : IsDisk B w d mb n rv x) (hlen : x.rs.length ≤ 2199023255552) :
    Calls Tryz.prog 21 #[.pointer (some ⟨d, 0, none⟩)] w fun e w' => ∃ ao cap, e = .returned (.slice ao x.rs.length cap) ∧ w'.ownsRow w.heap.size 52 3 (.slice ao x.rs.length cap) x.rs.length (rawCells x.rs) ∧ Below w.heap.size w w' := by
  have c1 := h.c1
  rcases h.row.2 with ⟨rfl, h0⟩ | ⟨g, cap, cur, rfl, _, _, _, _, _, _⟩
  · have hc : Calls Tryz.prog 56 #[.slice none 0 0] w fun e w' => e = .returned (.slice none 0 0) ∧ w' = w := AnyE.slices_Clone_nil Tryz.cloneRaw 0 0 w
    have HR := h.row
    clear h
    go_enter Tryz.func21, Tryz.ntmps21
    go_wp2_with (go_at_call 56; refine hc.mono ?_; rintro e w1 ⟨rfl, rfl⟩)
    go_ret
    rw [h0] at HR ⊢
    exact ⟨none, 0, rfl, ⟨HR.1, Or.inl ⟨rfl, rfl⟩⟩, Below.refl _ _⟩
  · obtain ⟨i0, hi, hz0, hz1, hz2⟩ := info_parts infoRaw
    have hc : Calls Tryz.prog 56 #[.slice (some ⟨g, 0, none⟩) x.rs.length cap] w fun e w' => ∃ v', e = .returned v' ∧ w'.ownsRow w.heap.size 52 3 v' x.rs.length (rawCells x.rs) ∧ v' ≠ .slice none 0 0 ∧ Below w.heap.size w w' :=
      AnyE.slices_Clone Tryz.cloneRaw i0 _ 3 40 hi hz0 hz1 hz2 rfl (by decide) Tryz.sizeOf52 g 0 x.rs.length cap (rawCells x.rs) w (rawCells_length _) (by unfold maxLen; omega) (by omega)
        (fun j u hu => by rw [Nat.zero_add]; exact row_cells h.row j u hu) rawCells_one
    clear h
    go_enter Tryz.func21, Tryz.ntmps21
    go_wp2_with (go_at_call 56; refine hc.mono ?_; rintro e w1 ⟨v, rfl, hr, hn, hb⟩)
    go_ret
    rcases hr.2 with ⟨hv, _⟩ | ⟨g', cap', cur', hv, _⟩
    · exact absurd hv hn
    · exact ⟨some ⟨g', 0, none⟩, cap', by rw [hv]; rfl, by rw [← hv]; exact hr, hb⟩

theorem neqRaw (k : Int) (p t : ByteArray) (w : World) : (binOp .neq 52 (.agg #[.int .i64 k, .string p, .string t]) (.agg #[.int .i64 k, .string p, .string t])).run Tryz.prog w = .ok (.bool false) w := by
  have u3 := Tryz.underlying3
  have a3 := Tryz.isAgg3
  have z3 := Tryz.sizeOf3
  have u9 := Tryz.underlying9
  have a9 := Tryz.isAgg9
  have z9 := Tryz.sizeOf9
  have hS : Tryz.prog.underlying 52 = some (.struct (Tryz.prog.fieldsOf 52)) := by kernel_rfl
  have hp : Tryz.prog.stoodInHeld 52 = false := by kernel_rfl
  rw [run_neq_struct, show (10000 : Nat) = 9999 + 1 from rfl, run_equalIn_agg w 9999 52 _ _ hS hp]
  simp only [Program.fieldsOf, Tryz.underlying52]
  go_simp

theorem neqFile (p : ByteArray) (c : Bool) (t : ByteArray) (w : World) : (binOp .neq 83 (.agg #[.string p, .bool c, .string t]) (.agg #[.string p, .bool c, .string t])).run Tryz.prog w = .ok (.bool false) w := by
  have u3 := Tryz.underlying4
  have a3 := Tryz.isAgg4
  have z3 := Tryz.sizeOf4
  have u9 := Tryz.underlying9
  have a9 := Tryz.isAgg9
  have z9 := Tryz.sizeOf9
  have hS : Tryz.prog.underlying 83 = some (.struct (Tryz.prog.fieldsOf 83)) := by kernel_rfl
  have hp : Tryz.prog.stoodInHeld 83 = false := by kernel_rfl
  rw [run_neq_struct, show (10000 : Nat) = 9999 + 1 from rfl, run_equalIn_agg w 9999 83 _ _ hS hp]
  simp only [Program.fieldsOf, Tryz.underlying83]
  go_simp

theorem guardRaw (op : BinOp) (x y : Operand) (xs ys : Array Value) (w : World) : (eqGuard op 52 x y (.agg xs) (.agg ys)).run Tryz.prog w = .ok () w := run_eqGuard_agg w op 52 x y xs ys (by kernel_rfl)
theorem guardFile (op : BinOp) (x y : Operand) (xs ys : Array Value) (w : World) : (eqGuard op 83 x y (.agg xs) (.agg ys)).run Tryz.prog w = .ok () w := run_eqGuard_agg w op 83 x y xs ys (by kernel_rfl)

theorem rawCells_get (rs : List (Int × ByteArray × ByteArray)) : ∀ (k : Nat) (h : k < rs.length), (rawCells rs)[k * 3]? = some (.int .i64 rs[k].1) ∧ (rawCells rs)[k * 3 + 1]? = some (.string rs[k].2.1) ∧ (rawCells rs)[k * 3 + 1 + 1]? = some (.string rs[k].2.2) := by
  induction rs with
  | nil => intro k h; simp at h
  | cons r rs ih =>
    intro k h
    cases k with
    | zero => simp [rawCells]
    | succ k =>
      obtain ⟨h1, h2, h3⟩ := ih k (by simpa using h)
      have e : rawCells (r :: rs) = .int .i64 r.1 :: .string r.2.1 :: .string r.2.2 :: rawCells rs := rfl
      rw [e]
      have q : (k + 1) * 3 = k * 3 + 1 + 1 + 1 := by omega
      rw [q]
      simp only [List.getElem?_cons_succ, List.getElem_cons_succ]
      exact ⟨h1, h2, h3⟩

set_option maxHeartbeats 1000000 in
theorem raws_walk (rs : List (Int × ByteArray × ByteArray)) (g h ca cb : Nat) (w : World) (hlen : rs.length ≤ 2199023255552)
    (ha : ∀ j u, (rawCells rs)[j]? = some u → w.cell? ⟨g, j, none⟩ = some u) (hb : ∀ j u, (rawCells rs)[j]? = some u → w.cell? ⟨h, j, none⟩ = some u) :
    Calls Tryz.prog 39 #[.slice (some ⟨g, 0, none⟩) rs.length ca, .slice (some ⟨h, 0, none⟩) rs.length cb] w fun e w' => e = .returned (.bool true) ∧ ∃ q, w' = w.drewN q := by
  have HA : Hid (∀ j u, (rawCells rs)[j]? = some u → w.cell? ⟨g, j, none⟩ = some u) := ha
  have HB : Hid (∀ j u, (rawCells rs)[j]? = some u → w.cell? ⟨h, j, none⟩ = some u) := hb
  clear ha hb
  have hne : ((rs.length : Int) != (rs.length : Int)) = false := by simp
  go_enter Tryz.func39, Tryz.ntmps39
  go_wp2_with fail
  go_loopw [5] (fun i wr => ∃ k : Nat, k ≤ rs.length ∧ i = .int .i64 k ∧ ∃ q, wr = w.drewN q) (fun i _ => rs.length - (intOf i).toNat)
  case atStart => exact ⟨0, Nat.zero_le _, rfl, 0, rfl⟩
  case round =>
    obtain ⟨k, hk, rfl, q, rfl⟩ := hrel
    by_cases hlt : k < rs.length
    · obtain ⟨g0, g1, g2⟩ := rawCells_get rs k hlt
      have a0 := HA.out _ _ g0
      have a1 := HA.out _ _ g1
      have a2 := HA.out _ _ g2
      have b0 := HB.out _ _ g0
      have b1 := HB.out _ _ g1
      have b2 := HB.out _ _ g2
      have hnq := neqRaw rs[k].1 rs[k].2.1 rs[k].2.2
      have hgd := guardRaw
      clear g0 g1 g2
      generalize rs[k].1 = v0 at *
      generalize rs[k].2.1 = v1 at *
      generalize rs[k].2.2 = v2 at *
      go_wp2_with fail
      go_quiet (fail)
      go_wp2
      exact ⟨⟨k + 1, by omega, by go_num, q + nq, rfl⟩, by simp [intOf]; omega⟩
    · go_wp2
      go_ret
      exact ⟨rfl, q, rfl⟩

set_option maxHeartbeats 400000 in
theorem raws_nil (ao bo : Option Addr) (ca cb : Nat) (w : World) :
    Calls Tryz.prog 39 #[.slice ao 0 ca, .slice bo 0 cb] w fun e w' => e = .returned (.bool true) ∧ ∃ q, w' = w.drewN q := by
  go_enter Tryz.func39, Tryz.ntmps39
  go_wp2_with fail
  go_loop [5] (fun i => i = .int .i64 0) (fun _ => 0)
  case atStart => rfl
  case round =>
    subst hrel
    go_wp2
    go_ret
    exact ⟨rfl, 0, rfl⟩

theorem row_shape {w : World} {B : Nat} {e : TypeId} {size n cap : Nat} {ao : Option Addr} {xs : List Value} (h : w.ownsRow B e size (.slice ao n cap) n xs) (hn : 0 < n) : ∃ g, ao = some ⟨g, 0, none⟩ := by
  rcases h.2 with ⟨_, h0⟩ | ⟨g, cap', cur, hv, _⟩
  · omega
  · cases hv; exact ⟨g, rfl⟩

theorem raws_any {w : World} {B1 B2 : Nat} {ao bo : Option Addr} {ca cb : Nat} (rs : List (Int × ByteArray × ByteArray)) (hlen : rs.length ≤ 2199023255552)
    (ha : w.ownsRow B1 52 3 (.slice ao rs.length ca) rs.length (rawCells rs)) (hb : w.ownsRow B2 52 3 (.slice bo rs.length cb) rs.length (rawCells rs)) :
    Calls Tryz.prog 39 #[.slice ao rs.length ca, .slice bo rs.length cb] w fun e w' => e = .returned (.bool true) ∧ ∃ q, w' = w.drewN q := by
  rcases Nat.eq_zero_or_pos rs.length with h0 | h0
  · rw [h0]; exact raws_nil ao bo ca cb w
  · obtain ⟨g, rfl⟩ := row_shape ha h0
    obtain ⟨h, rfl⟩ := row_shape hb h0
    exact raws_walk rs g h ca cb w hlen (row_cells ha) (row_cells hb)

/-- The cells of files and directories. -/
def fileCells (fs : List (ByteArray × Bool × ByteArray)) : List Value := fs.flatMap fun f => [.string f.1, .bool f.2.1, .string f.2.2]

theorem fileCells_length (rs : List (ByteArray × Bool × ByteArray)) : (fileCells rs).length = rs.length * 3 := by
  induction rs with
  | nil => rfl
  | cons r rs ih => unfold fileCells at *; simp only [List.flatMap_cons, List.length_append, List.length_cons, List.length_nil, ih]; omega

theorem fileCells_get (rs : List (ByteArray × Bool × ByteArray)) : ∀ (k : Nat) (h : k < rs.length), (fileCells rs)[k * 3]? = some (.string rs[k].1) ∧ (fileCells rs)[k * 3 + 1]? = some (.bool rs[k].2.1) ∧ (fileCells rs)[k * 3 + 1 + 1]? = some (.string rs[k].2.2) := by
  induction rs with
  | nil => intro k h; simp at h
  | cons r rs ih =>
    intro k h
    cases k with
    | zero => simp [fileCells]
    | succ k =>
      obtain ⟨h1, h2, h3⟩ := ih k (by simpa using h)
      have e : fileCells (r :: rs) = .string r.1 :: .bool r.2.1 :: .string r.2.2 :: fileCells rs := rfl
      rw [e]
      have q : (k + 1) * 3 = k * 3 + 1 + 1 + 1 := by omega
      rw [q]
      simp only [List.getElem?_cons_succ, List.getElem_cons_succ]
      exact ⟨h1, h2, h3⟩

set_option maxHeartbeats 1000000 in
theorem files_walk (rs : List (ByteArray × Bool × ByteArray)) (g h ca cb : Nat) (w : World) (hlen : rs.length ≤ 2199023255552)
    (ha : ∀ j u, (fileCells rs)[j]? = some u → w.cell? ⟨g, j, none⟩ = some u) (hb : ∀ j u, (fileCells rs)[j]? = some u → w.cell? ⟨h, j, none⟩ = some u) :
    Calls Tryz.prog 23 #[.slice (some ⟨g, 0, none⟩) rs.length ca, .slice (some ⟨h, 0, none⟩) rs.length cb] w fun e w' => e = .returned (.bool true) ∧ ∃ q, w' = w.drewN q := by
  have HA : Hid (∀ j u, (fileCells rs)[j]? = some u → w.cell? ⟨g, j, none⟩ = some u) := ha
  have HB : Hid (∀ j u, (fileCells rs)[j]? = some u → w.cell? ⟨h, j, none⟩ = some u) := hb
  clear ha hb
  have hne : ((rs.length : Int) != (rs.length : Int)) = false := by simp
  go_enter Tryz.func23, Tryz.ntmps23
  go_wp2_with fail
  go_loopw [5] (fun i wr => ∃ k : Nat, k ≤ rs.length ∧ i = .int .i64 k ∧ ∃ q, wr = w.drewN q) (fun i _ => rs.length - (intOf i).toNat)
  case atStart => exact ⟨0, Nat.zero_le _, rfl, 0, rfl⟩
  case round =>
    obtain ⟨k, hk, rfl, q, rfl⟩ := hrel
    by_cases hlt : k < rs.length
    · obtain ⟨g0, g1, g2⟩ := fileCells_get rs k hlt
      have a0 := HA.out _ _ g0
      have a1 := HA.out _ _ g1
      have a2 := HA.out _ _ g2
      have b0 := HB.out _ _ g0
      have b1 := HB.out _ _ g1
      have b2 := HB.out _ _ g2
      have hnq := neqFile rs[k].1 rs[k].2.1 rs[k].2.2
      have hgd := guardFile
      clear g0 g1 g2
      generalize rs[k].1 = v0 at *
      generalize rs[k].2.1 = v1 at *
      generalize rs[k].2.2 = v2 at *
      go_wp2_with fail
      go_quiet (fail)
      go_wp2
      exact ⟨⟨k + 1, by omega, by go_num, q + nq, rfl⟩, by simp [intOf]; omega⟩
    · go_wp2
      go_ret
      exact ⟨rfl, q, rfl⟩

set_option maxHeartbeats 400000 in
theorem files_nil (ao bo : Option Addr) (ca cb : Nat) (w : World) :
    Calls Tryz.prog 23 #[.slice ao 0 ca, .slice bo 0 cb] w fun e w' => e = .returned (.bool true) ∧ ∃ q, w' = w.drewN q := by
  go_enter Tryz.func23, Tryz.ntmps23
  go_wp2_with fail
  go_loop [5] (fun i => i = .int .i64 0) (fun _ => 0)
  case atStart => rfl
  case round =>
    subst hrel
    go_wp2
    go_ret
    exact ⟨rfl, 0, rfl⟩

theorem files_any {w : World} {B1 B2 : Nat} {ao bo : Option Addr} {ca cb : Nat} (rs : List (ByteArray × Bool × ByteArray)) (hlen : rs.length ≤ 2199023255552)
    (ha : w.ownsRow B1 83 3 (.slice ao rs.length ca) rs.length (fileCells rs)) (hb : w.ownsRow B2 83 3 (.slice bo rs.length cb) rs.length (fileCells rs)) :
    Calls Tryz.prog 23 #[.slice ao rs.length ca, .slice bo rs.length cb] w fun e w' => e = .returned (.bool true) ∧ ∃ q, w' = w.drewN q := by
  rcases Nat.eq_zero_or_pos rs.length with h0 | h0
  · rw [h0]; exact files_nil ao bo ca cb w
  · obtain ⟨g, rfl⟩ := row_shape ha h0
    obtain ⟨h, rfl⟩ := row_shape hb h0
    exact files_walk rs g h ca cb w hlen (row_cells ha) (row_cells hb)

theorem compare_lt : ∀ (a b : List UInt8), Lib.compareBytes a b < 0 ↔ bytesBefore a b = true
  | [], [] => by simp [Lib.compareBytes, bytesBefore]
  | [], _ :: _ => by simp [Lib.compareBytes, bytesBefore]
  | _ :: _, [] => by simp [Lib.compareBytes, bytesBefore]
  | a :: ra, b :: rb => by
    have ih := compare_lt ra rb
    unfold Lib.compareBytes bytesBefore
    by_cases h1 : a < b
    · simp [h1]
    · rw [if_neg h1]
      by_cases h2 : b < a
      · rw [if_pos h2]
        have h3 : ¬ a = b := fun e => by subst e; exact h1 h2
        simp [h1, h3]
      · rw [if_neg h2]
        have h3 : a = b := UInt8.le_antisymm (UInt8.not_lt.1 h2) (UInt8.not_lt.1 h1)
        simp [h3, ih]

/-- A file's path, whether it is a directory, its bytes. -/
abbrev Fl := ByteArray × Bool × ByteArray
def encF (f : Fl) : List Value := [.string f.1, .bool f.2.1, .string f.2.2]
def cmpF (x y : Fl) : Int := Lib.compareBytes x.1.data.toList y.1.data.toList

theorem ltF (x y : Fl) : ltOf cmpF x y = bytesBefore x.1.data.toList y.1.data.toList := by
  unfold ltOf cmpF
  rw [Bool.eq_iff_iff, decide_eq_true_iff]
  exact compare_lt _ _

theorem before_asymm {a b : List UInt8} (h : bytesBefore a b = true) : bytesBefore b a = false := by
  rw [Bool.eq_false_iff]
  intro k
  have := WideShapes.bytes_trans a b a h k
  rw [WideAt.bytes_irrefl] at this
  cases this

theorem not_before_trans {a b c : List UInt8} (h : bytesBefore a b = false) (k : bytesBefore b c = false) : bytesBefore a c = false := by
  rw [Bool.eq_false_iff]
  intro q
  by_cases e : b = c
  · subst e; rw [h] at q; cases q
  · rcases WideAt.bytes_total b c e with r | r
    · rw [k] at r; cases r
    · have := WideShapes.bytes_trans a c b q r
      rw [h] at this; cases this

theorem swoF : SWO (ltOf cmpF) where
  irrefl x := by rw [ltF]; exact WideAt.bytes_irrefl _
  trans x y z h1 h2 := by rw [ltF] at *; exact WideShapes.bytes_trans _ _ _ h1 h2
  ntrans x y z h1 h2 := by rw [ltF] at *; exact not_before_trans h1 h2

/-- Paths that rise. -/
def Rising (l : List Fl) : Prop := l.Pairwise fun x y => bytesBefore x.1.data.toList y.1.data.toList = true

theorem uniq_key {l : List Fl} (h : l.Pairwise fun x y => x.1 ≠ y.1) {a b : Fl} (ha : a ∈ l) (hb : b ∈ l) (e : a.1 = b.1) : a = b := by
  induction l with
  | nil => cases ha
  | cons x l ih =>
    rw [List.pairwise_cons] at h
    rcases List.mem_cons.1 ha with e1 | ha1
    · rcases List.mem_cons.1 hb with e2 | hb1
      · rw [e1, e2]
      · exact absurd (e1 ▸ e) (h.1 b hb1)
    · rcases List.mem_cons.1 hb with e2 | hb1
      · exact absurd (e2 ▸ e.symm) (h.1 a ha1)
      · exact ih h.2 ha1 hb1

/-- A sorted permutation of files whose paths differ is the rising one. -/
theorem sorted_is {d d' : Array Fl} {l : List Fl} (hl : Rising l) (hp : d.toList.Perm l) (hP : PermIn 0 d.size d d') (hS : SortedIn (ltOf cmpF) 0 d.size d') : d'.toList = l := by
  obtain ⟨hsz, _, hperm⟩ := hP
  have e1 : d'.extract 0 d.size = d' := by rw [← hsz]; exact Array.extract_size
  rw [e1, Array.extract_size] at hperm
  have hpl : d'.toList.Perm l := hperm.trans hp
  have hne : l.Pairwise fun x y => x.1 ≠ y.1 := hl.imp fun {x y} h e => by rw [e, WideAt.bytes_irrefl] at h; cases h
  refine List.Perm.eq_of_pairwise (le := fun x y => bytesBefore y.1.data.toList x.1.data.toList = false) ?_ ?_ ?_ hpl
  · intro a b ha hb h1 h2
    have ha' : a ∈ l := hpl.mem_iff.1 ha
    have e : a.1 = b.1 := by
      by_cases e : a.1.data.toList = b.1.data.toList
      · exact bytes_eq e
      · rcases WideAt.bytes_total _ _ e with r | r
        · rw [h2] at r; cases r
        · rw [h1] at r; cases r
    exact uniq_key hne ha' hb e
  · rw [List.pairwise_iff_getElem]
    intro i j hi hj hij
    have hi' : i < d'.size := by simpa using hi
    have hj' : j < d'.size := by simpa using hj
    have := hS i j (Nat.zero_le _) hij (by omega)
    rw [getElem!_pos d' j hj', getElem!_pos d' i hi', ltF] at this
    simpa using this
  · exact hl.imp fun {x y} h => before_asymm h

set_option maxHeartbeats 400000 in
theorem closure_any (x y : Fl) (W : World) : Calls Tryz.prog 58 #[.agg (encF x).toArray, .agg (encF y).toArray] W fun e w' => e = .returned (.int .i64 (cmpF x y)) ∧ ∃ q os', w' = grow (W.drewN q) os' := by
  obtain ⟨p, c, t⟩ := x
  obtain ⟨p', c', t'⟩ := y
  unfold cmpF encF
  have hcon := fun W' => Tryz.strings_Compare p p' W'
  have HC : Hid (∀ W', Calls Tryz.prog 59 #[.string p, .string p'] W' fun e w' => e = .returned (.int .i64 (Lib.compareBytes p.data.toList p'.data.toList)) ∧ w' = W') := hcon
  clear hcon
  generalize Lib.compareBytes p.data.toList p'.data.toList = r at *
  go_enter Tryz.func58, Tryz.ntmps58
  go_wp2_with (go_at_call 59; refine (HC.out _).mono ?_; rintro e w' ⟨rfl, rfl⟩)
  go_ret
  exact ⟨rfl, 0, _, by rw [alloc_eq_grow, alloc_eq_grow, grow_grow]; rfl⟩

theorem cmpLaysF (blk off size : Nat) (w : World) : CmpLays Tryz.prog 58 #[] encF 3 cmpF blk off size w := fun _ _ _ _ x y => closure_any x y _

theorem flat_cells (d : Array Fl) : (flatK encF 3 d).toList = fileCells d.toList := by
  apply List.ext_getElem?
  intro t
  by_cases ht : t < d.size * 3
  · have hk : t / 3 < d.toList.length := by simp; omega
    obtain ⟨h0, h1, h2⟩ := fileCells_get d.toList (t / 3) hk
    have hf : (flatK encF 3 d).toList[t]? = some ((encF d[t / 3]!)[t % 3]!) := by
      rw [Array.getElem?_toList]
      have : (flatK encF 3 d)[t]! = (encF d[t / 3]!)[t % 3]! := get_flatK _ _ _ _ ht
      rw [← this, getElem!_pos _ t (by simpa using ht)]
      exact Array.getElem?_eq_getElem (by simpa using ht)
    have hd : d[t / 3]! = d.toList[t / 3] := by rw [getElem!_pos d (t / 3) (by simpa using hk)]; simp
    rw [hf, hd]
    have hm : t % 3 = 0 ∨ t % 3 = 1 ∨ t % 3 = 2 := by omega
    rcases hm with m | m | m
    · rw [show t / 3 * 3 = t by omega] at h0; rw [m, h0]; rfl
    · rw [show t / 3 * 3 + 1 = t by omega] at h1; rw [m, h1]; rfl
    · rw [show t / 3 * 3 + 1 + 1 = t by omega] at h2; rw [m, h2]; rfl
  · rw [List.getElem?_eq_none (by simp; omega), List.getElem?_eq_none (by rw [fileCells_length]; simp; omega)]

theorem holdsF {w : World} {g : Nat} {cur : Array Value} {e : TypeId} {fs : List Fl} (hb : w.heap[g]? = some (.cells cur e (0, 0))) (ht : cur.toList.take (fs.length * 3) = fileCells fs) : HoldsK encF 3 w g 0 fs.toArray := by
  intro j hj
  have hj' : j < fs.length * 3 := by simpa using hj
  refine ⟨?_, by simp [World.frozen?, hb]⟩
  have h1 : (cur.toList.take (fs.length * 3))[j]? = (fileCells fs)[j]? := by rw [ht]
  rw [List.getElem?_take_of_lt hj'] at h1
  simp only [World.cell?, hb, Nat.zero_add]
  simp only [Option.isSome_none, Bool.false_eq_true, if_false]
  rw [← Array.getElem?_toList, h1]
  have e := flat_cells fs.toArray
  rw [List.toList_toArray] at e
  rw [← e, Array.getElem?_toList, getElem!_pos _ j hj]
  exact Array.getElem?_eq_getElem hj

theorem heapF {w : World} {g n : Nat} {os : Array Obj} {cur : Array Value} {e : TypeId} {fr : Nat × Nat} (d : Array Fl) (hb : w.heap[g]? = some (.cells cur e fr)) :
    (sortWorldK encF 3 w g 0 n d os).heap[g]? = some (.cells (putCells id 0 (flatK encF 3 d) cur) e fr) := by
  have hg : g < w.heap.size := (Array.getElem?_eq_some_iff.1 hb).1
  unfold sortWorldK putRowK
  rw [heap_grow_old _ _ (by simpa using hg)]
  simp [putRow, mapBlock, Sort.ahead, Array.getElem?_modify, hb, onCells]

theorem grownF {w : World} {g n : Nat} {os : Array Obj} (d : Array Fl) : w.grownBy (sortWorldK encF 3 w g 0 n d os) (some g) := by
  unfold sortWorldK putRowK
  refine ⟨rfl, rfl, rfl, by simp, fun k hk hne => ?_⟩
  rw [heap_grow_old _ _ (by simpa using hk)]
  have : g ≠ k := fun e => hne (by rw [e])
  simp [putRow, mapBlock, Sort.ahead, Array.getElem?_modify, this]

theorem take_putF (cur : Array Value) (F : Array Value) (h : F.size ≤ cur.size) : (putCells id 0 F cur).toList.take F.size = F.toList := by
  apply List.ext_getElem?
  intro j
  by_cases hj : j < F.size
  · rw [List.getElem?_take_of_lt hj, Array.getElem?_toList, Array.getElem?_toList]
    simp [putCells, hj, show j < cur.size by omega]
  · rw [List.getElem?_take_eq_none (by omega), List.getElem?_eq_none (by simp; omega)]

theorem ownsF {w : World} {base g cap n : Nat} {os : Array Obj} {cur : Array Value} {fs ts : List Fl} (hl : ts.length = fs.length) (hbase : base ≤ g) (hb : w.heap[g]? = some (.cells cur 83 (0, 0)))
    (h1 : fs.length ≤ cap) (h2 : cap ≤ maxLen) (h3 : cur.size = cap * 3) :
    (sortWorldK encF 3 w g 0 n ts.toArray os).ownsRow base 83 3 (.slice (some ⟨g, 0, none⟩) fs.length cap) fs.length (fileCells ts) := by
  refine ⟨by rw [fileCells_length, hl], .inr ⟨g, cap, _, rfl, hbase, heapF _ hb, h1, h2, by simp [putCells, h3], ?_⟩⟩
  have e := flat_cells ts.toArray
  rw [List.toList_toArray] at e
  have hsz : (flatK encF 3 ts.toArray).size = fs.length * 3 := by simp [hl]
  rw [← hsz, take_putF cur _ (by rw [hsz, h3]; exact Nat.mul_le_mul_right 3 h1), e]

/-- The files and directories of a map, by their paths. -/
def filesD : DataW Unit → List Fl
  | .map es => es.map fun p => (litB p.1, itDir p.2, ⟨(itData p.2).toArray⟩)
  | _ => []

theorem own_entries {w : World} {mb n : Nat} {D : DataW Unit} (h : w.ownsMap Tryz.prog 9 itemR mb n D) : ∃ es, D = .map es ∧ es.Pairwise (fun p q => p.1.before q.1 = true) ∧ es.length ≤ n ∧ ∀ p ∈ es, ∃ s c t, p = (keyD s, itemD c t) := by
  obtain ⟨es0, h0, hr, _⟩ := h.canon keyed
  obtain ⟨es, clock, _, F, hn, hD⟩ := h
  have e : es0 = (es.toList.map (rg Tryz.prog 9 itemR)).foldr DataW.insert [] := by rw [h0] at hD; simpa using hD
  refine ⟨es0, h0, hr, ?_, fun p hp => ?_⟩
  · rw [e, length_sorted]; simpa using hn
  · rw [e] at hp
    obtain ⟨x, hx, rfl⟩ := List.mem_map.1 (mem_sorted.1 hp)
    obtain ⟨y, hy⟩ := F.reads x hx
    rw [rg_of hy]
    unfold Go.WideElems.rd at hy
    simp only [Option.bind_eq_some_iff, Option.map_eq_some_iff] at hy
    obtain ⟨key, h1, d, h2, rfl⟩ := hy
    obtain ⟨s, _, hk, _⟩ := keyOf_inv h1
    obtain ⟨c, t, _, hd, _⟩ := itemR_inv h2
    exact ⟨s, c, t, by rw [hk, hd]⟩

theorem file_of (s : ByteArray) (c : Bool) (t : ByteArray) : (litB (keyD s), itDir (itemD c t), (⟨(itData (itemD c t)).toArray⟩ : ByteArray)) = (s, c, t) := by
  rw [litB_key, itDir_mk, itData_mk, bytes_mk]

theorem files_facts {w : World} {mb n : Nat} {D : DataW Unit} (h : w.ownsMap Tryz.prog 9 itemR mb n D) :
    Rising (filesD D) ∧ (filesD D).length ≤ n ∧ ∀ f : Fl, f ∈ filesD D ↔ Maps.has D (keyD f.1) = true ∧ D.atKey (keyD f.1) zeroD = itemD f.2.1 f.2.2 := by
  obtain ⟨es, rfl, hr, hn, hf⟩ := own_entries h
  refine ⟨?_, by simpa [filesD] using hn, fun f => ?_⟩
  · unfold Rising filesD
    rw [List.pairwise_map]
    refine hr.imp_of_mem fun {p q} hp hq hb => ?_
    obtain ⟨s, c, t, rfl⟩ := hf p hp
    obtain ⟨s', c', t', rfl⟩ := hf q hq
    simp only [litB_key]
    exact hb
  · have hap := apart_of_rising hr
    unfold filesD
    rw [List.mem_map]
    constructor
    · rintro ⟨p, hp, rfl⟩
      obtain ⟨s, c, t, rfl⟩ := hf p hp
      simp only [litB_key, itDir_mk, itData_mk, bytes_mk]
      refine ⟨?_, WideAt.atKey_mem _ (isKey s) hap hp⟩
      rw [has_eq, List.any_eq_true]
      exact ⟨_, hp, WideAt.sameKey_self (isKey s)⟩
    · rintro ⟨h1, h2⟩
      rw [has_eq, List.any_eq_true] at h1
      obtain ⟨p, hp, hk⟩ := h1
      obtain ⟨s, c, t, rfl⟩ := hf p hp
      have es' : s = f.1 := (sameKey_keyD _ _).1 hk
      subst es'
      have := WideAt.atKey_mem zeroD (isKey f.1) hap hp
      rw [h2] at this
      refine ⟨_, hp, ?_⟩
      rw [← this, file_of]

theorem distinct {l : List Fl} (h : Rising l) : l.Nodup := h.imp fun {x y} h e => by rw [e, WideAt.bytes_irrefl] at h; cases h

/-- What has been collected: each file that is no longer to come, once. -/
def CollF (D : DataW Unit) (left : Lit → Bool) (fs : List Fl) : Prop := fs.Nodup ∧ ∀ f : Fl, f ∈ fs ↔ (f ∈ filesD D ∧ left (keyD f.1) = false)

theorem CollF.start {D : DataW Unit} (hm : ∀ f : Fl, f ∈ filesD D → Maps.has D (keyD f.1) = true) : CollF D (Maps.has D) [] :=
  ⟨List.nodup_nil, fun f => ⟨fun h => (by cases h), fun ⟨h1, h2⟩ => (by rw [hm f h1] at h2; cases h2)⟩⟩

theorem CollF.step {D : DataW Unit} {left : Lit → Bool} {fs : List Fl} (h : CollF D left fs) {f : Fl} (hf : f ∈ filesD D) (hl : left (keyD f.1) = true) (hu : ∀ g ∈ filesD D, g.1 = f.1 → g = f) : CollF D (fun z => left z && !z.sameKey (keyD f.1)) (fs ++ [f]) := by
  have hnew : f ∉ fs := fun hx => by have := ((h.2 f).1 hx).2; rw [hl] at this; cases this
  refine ⟨List.nodup_append.2 ⟨h.1, by simp, fun a ha b hb => by simp only [List.mem_singleton] at hb; subst hb; exact fun e => hnew (e ▸ ha)⟩, fun g => ?_⟩
  rw [List.mem_append, List.mem_singleton, h.2 g]
  by_cases e : g.1 = f.1
  · constructor
    · rintro (⟨h1, h2⟩ | rfl)
      · exact ⟨h1, by simp [h2]⟩
      · exact ⟨hf, by simp [(sameKey_keyD _ _).2 rfl]⟩
    · rintro ⟨h1, _⟩
      exact Or.inr (hu g h1 e)
  · have : (keyD g.1).sameKey (keyD f.1) = false := by rw [Bool.eq_false_iff]; intro h; exact e ((sameKey_keyD _ _).1 h)
    simp only [this, Bool.not_false, Bool.and_true]
    constructor
    · rintro (h1 | rfl)
      · exact h1
      · exact absurd rfl e
    · exact Or.inl

theorem CollF.perm {D : DataW Unit} {left : Lit → Bool} {fs : List Fl} (h : CollF D left fs) (hd : (filesD D).Nodup) (hl : ∀ kl, left kl = false) : fs.Perm (filesD D) :=
  (List.perm_ext_iff_of_nodup h.1 hd).2 fun f => by rw [h.2 f, hl]; simp

theorem infoFile : (Tryz.prog.info? 83).map (fun i => (i.zero, i.size, i.bytes)) = some (some (.agg #[.string ByteArray.empty, .bool false, .string ByteArray.empty]), 3, 40) := by kernel_rfl

theorem fileCells_snoc (fs : List Fl) (f : Fl) : fileCells (fs ++ [f]) = fileCells fs ++ [.string f.1, .bool f.2.1, .string f.2.2] := by simp [fileCells]

theorem sort_none (ao : Option Addr) (cap : Nat) (w : World) : Calls Tryz.prog 57 #[.slice ao 0 cap, .func (.func 58) #[] #[]] w fun e w' => e = .returned (.tuple #[]) ∧ w' = w :=
  AnyF.slices_SortFunc_none Tryz.sortFile ao cap (.func (.func 58) #[] #[]) w

theorem sort_some {w : World} {base g cap : Nat} {cur : Array Value} {fs l : List Fl} (hbase : base ≤ g) (hb : w.heap[g]? = some (.cells cur 83 (0, 0))) (h1 : fs.length ≤ cap) (h2 : cap ≤ maxLen) (h3 : cur.size = cap * 3) (h4 : cur.toList.take (fs.length * 3) = fileCells fs)
    (hl : Rising l) (hp : fs.Perm l) (hsz : fs.length < 4611686018427387904) :
    Calls Tryz.prog 57 #[.slice (some ⟨g, 0, none⟩) fs.length cap, .func (.func 58) #[] #[]] w fun e w' => e = .returned (.tuple #[]) ∧
      w'.ownsRow base 83 3 (.slice (some ⟨g, 0, none⟩) fs.length cap) fs.length (fileCells l) ∧ w.grownBy w' (some g) := by
  have eg : ∀ args w, (callFunc 58 args).run Tryz.prog w = .ok (.enter 58 args) w := enters_of Tryz.func58 (by kernel_rfl) rfl
  have hcon := AnyQ.slices_SortFunc Tryz.sortFile 3 Tryz.isAgg83 Tryz.sizeOf83 encF (fun _ => rfl) (fun x v hv => by simp [encF] at hv; rcases hv with rfl | rfl | rfl <;> rfl) cmpF swoF 58 #[] g 0 cap fs.toArray w eg (cmpLaysF g 0 fs.toArray.size w) (holdsF hb h4)
    (Array.getElem?_eq_some_iff.1 hb).1 (by simpa using hsz)
  change Calls Tryz.prog 57 #[.slice (some ⟨g, 0, none⟩) fs.toArray.size cap, .func (.func 58) #[] #[]] _ _ at hcon
  rw [List.size_toArray] at hcon
  refine hcon.mono ?_
  rintro e w' ⟨rfl, d', n, os, hP, hS, rfl⟩
  have hd : d'.toList = l := sorted_is (d := fs.toArray) hl (by simpa using hp) (by simpa using hP) (by simpa using hS)
  have hd' : d' = l.toArray := by rw [← hd]
  refine ⟨rfl, ?_, grownF d'⟩
  rw [hd']
  exact ownsF hp.length_eq.symm hbase hb h1 h2 h3

set_option maxHeartbeats 2000000 in
theorem All_any {B : Nat} {w : World} {d mb n : Nat} {rv : Value} {x : Ab} (h : IsDisk B w d mb n rv x) (hn : n ≤ 2199023255552) :
    Calls Tryz.prog 24 #[.pointer (some ⟨d, 0, none⟩)] w fun e w' => ∃ ao cap, e = .returned (.slice ao (filesD x.D).length cap) ∧ w'.ownsRow w.heap.size 83 3 (.slice ao (filesD x.D).length cap) (filesD x.D).length (fileCells (filesD x.D)) ∧ Below w.heap.size w w' := by
  obtain ⟨i0, hi, hz0, hz1, hz2⟩ := info_parts infoFile
  have c0 := h.c0
  have HO : Hid (w.ownsMap Tryz.prog 9 itemR mb n x.D) := h.own
  obtain ⟨q1, q2, q3⟩ := files_facts h.own
  have HQ1 : Hid (Rising (filesD x.D)) := q1
  have HQ2 : Hid ((filesD x.D).length ≤ n) := q2
  have HQ3 : Hid (∀ f : Fl, f ∈ filesD x.D ↔ Maps.has x.D (keyD f.1) = true ∧ x.D.atKey (keyD f.1) zeroD = itemD f.2.1 f.2.2) := q3
  have hml := h.own.lt
  clear h q1 q2 q3
  go_enter Tryz.func24, Tryz.ntmps24
  go_wp2_with (at_range; refine wpList_range_own _ rfl _ 60 rfl 9 88 keyed Tryz.underlying60 _ mb n _ rfl HO.out ?_; intro w0 hrg0 hg0 hs0; have HS0 : Hid (w0.heap.size = w.heap.size + 1) := hs0; clear hs0)
  go_frame
  go_loopw [3] (fun v wr => ∃ (left : Lit → Bool) (cnt : Nat) (fs : List Fl), wr.ranges Tryz.prog 9 itemR mb w.heap.size n x.D left cnt ∧ wr.ownsRow (w.heap.size + 1) 83 3 v fs.length (fileCells fs) ∧ (v = .slice none 0 0 → fs.length = 0) ∧
      CollF x.D left fs ∧ (∀ kl, left kl = true → Maps.has x.D kl = true) ∧ Below w.heap.size w wr ∧ w.heap.size + 1 ≤ wr.heap.size ∧ fs.length + cnt ≤ n)
    (fun _ wr => wr.rangeLeft mb w.heap.size)
  case atStart =>
    exact ⟨_, _, [], hrg0, ⟨rfl, Or.inl ⟨rfl, rfl⟩⟩, fun _ => rfl, CollF.start (fun f hf => ((HQ3.out f).1 hf).1), fun kl hk => hk, (Below.refl _ _).grown hg0 (Nat.le_refl _) (fun j hj => by cases hj), Nat.le_of_eq HS0.out.symm, by simp only [List.length_nil, Nat.zero_add]; exact HO.out.size_le⟩
  case round =>
    obtain ⟨left, cnt, fs, hrg, hrow, hnil, hC, hlh, hb, hsz, hcn⟩ := hrel
    have HC : Hid (CollF x.D left fs) := hC
    have HL : Hid (∀ kl, left kl = true → Maps.has x.D kl = true) := hlh
    have HR : Hid (wr.ranges Tryz.prog 9 itemR mb w.heap.size n x.D left cnt) := hrg
    clear hC hlh hrg
    go_wp2_with (at_next; refine wpList_next_ranges _ rfl _ rfl 9 keyed itemR Value.string mkItem (fun key kl hk => by obtain ⟨x, hx, _⟩ := keyOf_inv hk; exact ⟨x, hx⟩) (fun v y hv => by obtain ⟨c, t, rfl, _⟩ := itemR_inv hv; exact ⟨⟨c, t⟩, rfl⟩) mb w.heap.size n _ _ _ rfl HR.out ?_ ?_)
    · intro hc0 hl0
      have hp : fs.Perm (filesD x.D) := HC.out.perm (distinct HQ1.out) hl0
      have hlen := hp.length_eq
      have hle := HQ2.out
      rcases hrow.2 with ⟨rfl, h0⟩ | ⟨g, cap, cur, rfl, hbase, hbk, h1, h2, h3, h4⟩
      · have hF : filesD x.D = [] := List.eq_nil_of_length_eq_zero (by omega)
        have hc := sort_none none 0 wr
        clear hl0 hrow hlen hle hp
        go_wp2_with (go_at_call 57; refine hc.mono ?_; rintro e w1 ⟨rfl, rfl⟩)
        go_ret
        rw [hF]
        exact ⟨none, 0, rfl, ⟨rfl, Or.inl ⟨rfl, rfl⟩⟩, hb⟩
      · have hc := sort_some hbase hbk h1 h2 h3 h4 HQ1.out hp (by omega)
        have HLN : Hid (fs.length = (filesD x.D).length) := hlen
        clear hl0 hrow hlen hle hp hbk h1 h2 h3 h4 hnil
        go_wp2_with (go_at_call 57; refine hc.mono ?_; rintro e w1 ⟨rfl, hr, hg⟩)
        go_ret
        refine ⟨some ⟨g, 0, none⟩, cap, by rw [← HLN.out]; rfl, ?_, hb.grown hg hb.size (fun j hj => by cases hj; omega)⟩
        rw [← HLN.out]
        rcases hr.2 with ⟨hv, _⟩ | ⟨g', cap', cur', hv, hb', r⟩
        · cases hv
        · exact ⟨hr.1, Or.inr ⟨g', cap', cur', hv, Nat.le_trans (Nat.le_succ _) hb', r⟩⟩
    · intro q c kl yd yp w2 cnt2 hkey hlk hv hat hrg2 hlt hg2 hs2 hen
      obtain ⟨dr, dt⟩ := c
      simp only [mkItem] at hv hen ⊢
      obtain ⟨q', eq, rfl, _⟩ := keyOf_inv hkey
      obtain rfl : q = q' := by simpa using eq
      obtain ⟨dr', dt', ev, ey, hdt⟩ := itemR_inv hv
      obtain ⟨rfl, rfl⟩ : dr = dr' ∧ dt = dt' := by simpa using ev
      have hyd : yd = itemD dr dt := congrArg Prod.fst ey
      have hin : ((q, dr, dt) : Fl) ∈ filesD x.D := (HQ3.out _).2 ⟨HL.out _ hlk, by rw [hat, hyd]⟩
      have hC2 := HC.out.step hin hlk (fun g hg e => uniq_key (HQ1.out.imp fun {x y} h e => by rw [e, WideAt.bytes_irrefl] at h; cases h) hg hin e)
      have HC2 : Hid (CollF x.D (fun z => left z && !z.sameKey (keyD q)) (fs ++ [(q, dr, dt)])) := hC2
      have HR2 : Hid (w2.ranges Tryz.prog 9 itemR mb w.heap.size n x.D (fun z => left z && !z.sameKey (keyD q)) cnt2) := hrg2
      have hb2 : Below w.heap.size w w2 := hb.grown hg2 hb.size (fun j hj => by cases hj; exact Nat.le_refl _)
      have hrow2 : w2.ownsRow (w.heap.size + 1) 83 3 u3 fs.length (fileCells fs) := ownsRow_upd hrow (Upd.of_grown hg2) (fun k hk e => by have := (row_lt hrow hk).2; cases e; omega)
      have HW : Hid (w.heap.size + 1 ≤ w2.heap.size) := Nat.le_trans hsz hg2.size
      have HRW : Hid (w2.ownsRow (w.heap.size + 1) 83 3 u3 fs.length (fileCells fs)) := hrow2
      have HN : Hid (∀ j u, [Value.string q, .bool dr, .string dt][j]? = some u → ((w2.alloc (.cells #[.bool dr, .string dt] 88)).alloc (.cells #[.string q, .bool dr, .string dt] 83)).cell? ((⟨w2.heap.size + 1, 0, none⟩ : Addr).add j) = some u) :=
        World.news_of_block (cs := #[.string q, .bool dr, .string dt]) (t := 83) (fr := (0, 0)) (by
          show ((w2.heap.push _).push _)[w2.heap.size + 1]? = _
          rw [Array.getElem?_push, if_pos (by simp)])
      clear hs2 hkey hlk hv hat hrg2 eq ev ey hyd hin hC2 hg2 hrow hrow2 hb hsz hdt
      go_wp2_with (first
        | (at_builtin; refine wpList_append_own _ rfl _ _ 22 rfl (w.heap.size + 1) 83 i0 (.agg #[.string ByteArray.empty, .bool false, .string ByteArray.empty]) 3 40 Tryz.underlying22 hi hz0 hz1 hz2 rfl (by decide) _ _ _ rfl ((HRW.out.alloc _).alloc _) ⟨w2.heap.size + 1, 0, none⟩ 1 1 [.string q, .bool dr, .string dt] rfl rfl HN.out (by simp [Value.oneCell']) (by unfold maxLen; omega) (by omega) (by have := HW.out; simp; omega) ?_; intro v' w3 hown' hg3 hnil3; go_frame)
        | fail)
      have hb4 : Below w2.heap.size w2 ((w2.alloc (.cells #[.bool dr, .string dt] 88)).alloc (.cells #[.string q, .bool dr, .string dt] 83)) := ((Below.refl _ _).alloc (Nat.le_refl _) _).alloc (by simp) _
      have hrg3 := ((HR2.out.alloc (.cells #[.bool dr, .string dt] 88)).alloc (.cells #[.string q, .bool dr, .string dt] 83)).kept hg3 (fun e => by have := (row_lt HRW.out e.symm).2; omega) (fun e => by have := (row_lt HRW.out e.symm).2; omega)
      refine ⟨⟨_, cnt2, fs ++ [(q, dr, dt)], hrg3, ?_, fun hv' => ?_, HC2.out, fun kl hl => ?_, ?_, ?_, ?_⟩, ?_⟩
      · rw [fileCells_snoc, List.length_append]; exact hown'
      · have := (hnil3.1 hv').2; omega
      · simp only [Bool.and_eq_true] at hl; exact HL.out kl hl.1
      · exact (hb2.trans (hb4.mono hb2.size)).grown hg3 (by have := HW.out; simp; omega) (fun j hj => by have := (row_lt HRW.out hj).2; omega)
      · have := HW.out; have := hg3.size; have := hb4.size; omega
      · simp only [List.length_append, List.length_cons, List.length_nil]; omega
      · rw [hrg3.left_eq, HR.out.left_eq]; exact hlt
end Go.Proofs.YtpaoimhebheaeaaGreatDoor.Dk
