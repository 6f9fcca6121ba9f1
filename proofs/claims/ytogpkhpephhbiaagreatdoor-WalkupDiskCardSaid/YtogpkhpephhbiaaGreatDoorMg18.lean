/- Tw13, Od4, Kn2, Env1, RowS, RwD, RwP, RwTr, RwPa, RwOd, laid in one text. -/
import Derived.Test.YtogpkhpephhbiaaGreatDoorMg17
namespace Go.Proofs.YtogpkhpephhbiaaGreatDoor
open Go.RowKit
set_option maxRecDepth 100000

set_option maxHeartbeats 3200000 in
theorem lives_any {w : World} (he : Env w) (hf : FL w) :
    Calls Tryz.prog 7 #[] w fun e w' => e = .returned (.bool true) ∧ Below w.heap.size w w' := by
  have HW : Hid ((w5S w).alloc (.cells #[.slice (some ⟨w.heap.size + 1 + 1 + 1 + 1 + 1, 0, none⟩) 2 2] 76) = w6S w) := rfl
  have hb6 := b6S w
  have hbd : Below (w2S w).heap.size (w2S w) (w6S w) := below_then (boxB (w2S w) _) (below_then (boxB (w3S w) _) (below_then (boxB (w4S w) _) (boxB (w5S w) _)))
  have HD : Hid (∀ w1, Below (w6S w).heap.size (w6S w) w1 → DirsAt w1 (.slice (some ⟨w.heap.size + 1 + 1, 0, none⟩) 2 2) smallL) := fun w1 hb => (dirs2S w).below (below_then hbd hb)
  have HM : Hid (Calls Tryz.prog 23 #[.agg #[.slice (some ⟨w.heap.size + 1 + 1, 0, none⟩) 2 2], .agg #[.slice (some ⟨w.heap.size + 1 + 1 + 1 + 1 + 1, 0, none⟩) 2 2]] (w6S w) fun e w' => ∃ gm cm, e = .returned (.tuple #[.slice (some ⟨gm, 0, none⟩) 2 cm, .int .i64 0]) ∧ (w'.cell? ⟨gm, 1, none⟩ = some (.int .i64 1) ∧ gm < w'.heap.size) ∧ Below (w6S w).heap.size (w6S w) w') := by
    refine (map_any ((dirs2S w).below hbd) (by decide) small_ok ((nodes5S w).below (boxB (w5S w) _)) small_gok (he.below hb6) (hf.below hb6)).mono ?_
    rintro e w' ⟨v', rfl, ho, hb⟩
    rw [small_mapE]
    rw [small_mapO] at ho
    obtain ⟨gm, cm, rfl, _⟩ := ho.form (by decide)
    refine ⟨gm, cm, rfl, ⟨?_, (World.ownsRow.lt ho gm rfl).2⟩, hb⟩
    exact World.ownsRow.cellAt ho 1 (by decide)
  have HL1 : Hid (∀ w1, Below (w6S w).heap.size (w6S w) w1 → Calls Tryz.prog 24 #[.agg #[.slice (some ⟨w.heap.size + 1 + 1, 0, none⟩) 2 2], .int .i64 1, .string ⟨#[97]⟩] w1 fun e w' => e = .returned (.int .i64 1) ∧ Below w1.heap.size w1 w') := fun w1 hb => by
    have h := look_any (HD.out w1 hb) (by decide) small_ok.1 1 sA
    rw [look_1a] at h
    exact h
  have HL2 : Hid (∀ w1, Below (w6S w).heap.size (w6S w) w1 → Calls Tryz.prog 24 #[.agg #[.slice (some ⟨w.heap.size + 1 + 1, 0, none⟩) 2 2], .int .i64 0, .string ⟨#[98]⟩] w1 fun e w' => e = .returned (.int .i64 (-1)) ∧ Below w1.heap.size w1 w') := fun w1 hb => by
    have h := look_any (HD.out w1 hb) (by decide) small_ok.1 0 sB
    rw [look_0b] at h
    exact h
  have HBT : Hid (∀ w1, Below (w6S w).heap.size (w6S w) w1 → w1.cell? ⟨w.heap.size + 1 + 1 + 1, 0, none⟩ = some (.slice (some ⟨w.heap.size + 1 + 1, 0, none⟩) 2 2)) := fun w1 hb => by
    have h3 : (w3S w).heap[w.heap.size + 1 + 1 + 1]? = some (.cells #[.slice (some ⟨w.heap.size + 1 + 1, 0, none⟩) 2 2] 67 (0, 0)) := by
      have h := heap_alloc_new (w2S w) (.cells #[.slice (some ⟨w.heap.size + 1 + 1, 0, none⟩) 2 2] 67)
      rw [s2S] at h
      exact h
    have hb36 : Below (w3S w).heap.size (w3S w) w1 := below_then (below_then (boxB (w3S w) _) (below_then (boxB (w4S w) _) (boxB (w5S w) _))) hb
    refine (hb36.cell (p := ⟨w.heap.size + 1 + 1 + 1, 0, none⟩) (by show w.heap.size + 1 + 1 + 1 < _; rw [s3S]; omega)).trans ?_
    rw [Lib.cell_of_heap h3]
    rfl
  have HB6 := hide3 hb6
  clear hbd hb6 he hf
  go_enter Tryz.func7, Tryz.ntmps7
  have t1 : True := trivial
  go_wp2_with (first
    | (go_at_call 23; refine HM.out.mono ?_; rintro e w7 ⟨gm, cm, rfl, ⟨hc7, hg7⟩, ok⟩; have HO7 := hide3 ok; have b7 := HBT.out _ ok; clear ok)
    | (have _t := t1; go_at_call 24; refine (HL1.out _ HO7.out).mono ?_; rintro e w8 ⟨rfl, ok⟩; have HO8 := hide3 (below_then HO7.out ok); have b8 := HBT.out _ HO8.out; have hc8 := (ok.cell (p := ⟨gm, 1, none⟩) hg7).trans hc7; have hg8 := Nat.lt_of_lt_of_le hg7 ok.size; clear ok t1)
    | (have _t := HO8; go_at_call 24; refine (HL2.out _ HO8.out).mono ?_; rintro e w9 ⟨rfl, ok⟩; have HO9 := hide3 (below_then HO8.out ok); have hc9 := (ok.cell (p := ⟨gm, 1, none⟩) hg8).trans hc8; clear ok))
  go_ret
  exact ⟨rfl, below_then HB6.out HO9.out⟩
end Go.Proofs.YtogpkhpephhbiaaGreatDoor
namespace Go.Proofs.YtogpkhpephhbiaaGreatDoor
open Go.RowKit
set_option maxRecDepth 100000

theorem load_all {fs : List Dk.Fl} (h : Dk.Loads fs) : ∀ f ∈ fs, Dk.okPath f.1 = true := fun f hf => by
  obtain ⟨i, hi, rfl⟩ := List.getElem_of_mem hf
  exact Dk.okF_path (h.1 i hi).1

set_option maxHeartbeats 3200000 in
theorem walkupDisk_walk {fs : List Dk.Fl} {a : Option Addr} {cap : Nat} {w : World} (hlen : fs.length ≤ 3518437208790) (hc : Dk.IsFiles w a fs) (hz : ∀ f ∈ fs, f.1.size ≤ maxLen ∧ f.2.2.size ≤ maxLen) (t s : ByteArray) (ht : t.size ≤ 140737488351232) (hs : s.size ≤ 9223372036854775807) (m : Int) (hm : w.cell? ⟨0, 0, none⟩ = some (.int .i64 m)) (he : Env w) (hfl : FL w) :
    Calls Tryz.prog 3 #[.slice a fs.length cap, .string t, .string s] w fun e w' => e = .returned (.bool true) ∧ Below w.heap.size w w' := by
  have HL1 : Hid (Calls Tryz.prog 4 #[.slice a fs.length cap] w (Dk.LoadQ w fs)) := Dk.Load_any fs a cap m w hm (by omega) hc hz
  have HL2 : Hid (∀ W, Below w.heap.size w W → Calls Tryz.prog 5 #[.slice a fs.length cap] W (Dk.RLoadQ W fs)) := fun W hb => Dk.rLoad_any fs a cap W (by omega) (hc.below hb) hz
  have HLV : Hid (∀ w1, Below w.heap.size w w1 → Calls Tryz.prog 7 #[] w1 fun e w' => e = .returned (.bool true) ∧ Below w1.heap.size w1 w') := fun w1 hb => lives_any (he.below hb) (hfl.below hb)
  have HNO : Hid (∀ w1, Calls Tryz.prog 6 #[.pointer none, .string t, .string s] w1 fun e w' => e = .returned (.tuple #[.string ⟨#[]⟩, .bool false]) ∧ Below w1.heap.size w1 w') := fun w1 => onDisk_no none t s ht (Or.inl rfl)
  have HFL : Hid (Dk.Loads fs → (Dk.filesD (Dk.loadD fs)).length = fs.length ∧ Dk.Good (Dk.loadD fs) ∧ Dk.Sound (Dk.loadD fs)) := fun h => ⟨Dk.len_load fs (Dk.plain_load fs (load_all h)) (Dk.loads_apart h.1), (Dk.plain_load fs (load_all h)).good, Dk.load_sound h⟩
  have HD1 : Hid (∀ (w1 W : World) n, Dk.IsDisk w.heap.size w1 (w.heap.size + 1) w.heap.size n (.slice none 0 0) ⟨Dk.loadD fs, [], -1⟩ → Below w1.heap.size w1 W → Calls Tryz.prog 6 #[.pointer (some ⟨w.heap.size + 1, 0, none⟩), .string t, .string s] W fun e w' => e = .returned (odA (odV (Dk.loadD fs) t s)) ∧ Below W.heap.size W w') := fun w1 W n h hb => onDisk_any (h.below hb) t s ht
  have HD2 : Hid (∀ (w1 w2 W : World) lv rv, Dk.Loads fs → Dk.IsRef w1.heap.size w2 w1.heap.size lv rv (Dk.filesD (Dk.loadD fs)) [] (-1) → Below w2.heap.size w2 W → Calls Tryz.prog 8 #[.pointer (some ⟨w1.heap.size, 0, none⟩), .string t, .string s] W fun e w' => e = .returned (odA (odV (Dk.loadD fs) t s)) ∧ Below W.heap.size W w') := fun w1 w2 W lv rv hL h hb => by
    obtain ⟨h1, h2, h3⟩ := HFL.out hL
    exact rOnDisk_any (h.below hb) h2 h3 (by omega) t s ht hs
  clear hc hz hm he hfl HFL
  by_cases hL : Dk.Loads fs
  · have HLL := hide3 hL
    clear hL
    generalize odV (Dk.loadD fs) t s = r at *
    unfold odA at HD1 HD2
    generalize r.getD ⟨#[]⟩ = rs at *
    generalize r.isSome = rb at *
    go_enter Tryz.func3, Tryz.ntmps3
    go_wp2_with (first
      | (have _t := HB4; go_at_call 7; refine (HLV.out _ HB4.out).mono ?_; rintro e w5 ⟨rfl, hb5⟩; have HB5 := hide3 (below_then HB4.out hb5); clear hb5)
      | (have _t := HB3; go_at_call 8; refine (HD2.out _ _ _ _ _ HLL.out HRR.out HB3.out.2).mono ?_; rintro e w4 ⟨rfl, hb4⟩; have HB4 := hide3 (below_then HB3.out.1 hb4); clear hb4 HB3)
      | (have _t := HB2; go_at_call 6; refine (HD1.out _ _ _ HDD.out HB2.out.2).mono ?_; rintro e w3 ⟨rfl, hb3⟩; have HB3 : Hid (Below w.heap.size w w3 ∧ Below w2.heap.size w2 w3) := ⟨below_then HB2.out.1 hb3, hb3⟩; clear hb3 HB2)
      | (have _t := HB1; go_at_call 5; refine (HL2.out _ HB1.out).mono ?_; rintro e w2 ⟨hb2, hq2⟩; obtain ⟨_, rfl, lv, rv, hr2⟩ := hq2.resolve_right (fun h => h.1 HLL.out); have HB2 : Hid (Below w.heap.size w w2 ∧ Below w1.heap.size w1 w2) := ⟨below_then HB1.out hb2, hb2⟩; have HRR := hide3 hr2; clear hq2 hr2 hb2 HB1)
      | (go_at_call 4; refine HL1.out.mono ?_; rintro e w1 ⟨hb1, hq1⟩; obtain ⟨_, rfl, n1, hn1, hd1⟩ := hq1.resolve_right (fun h => h.1 HLL.out); have HB1 := hide3 hb1; have HDD := hide3 hd1; clear hq1 hd1 hb1 hn1))
    go_ret
    exact ⟨rfl, HB5.out⟩
  · have HLL := hide3 hL
    clear hL
    go_enter Tryz.func3, Tryz.ntmps3
    go_wp2_with (first
      | (have _t := HB3; go_at_call 7; refine (HLV.out _ HB3.out).mono ?_; rintro e w5 ⟨rfl, hb5⟩; have HB5 := hide3 (below_then HB3.out hb5); clear hb5)
      | (have _t := HB2; go_at_call 6; refine (HNO.out _).mono ?_; rintro e w3 ⟨rfl, hb3⟩; have HB3 := hide3 (below_then HB2.out hb3); clear hb3 HB2)
      | (have _t := HB1; go_at_call 5; refine (HL2.out _ HB1.out).mono ?_; rintro e w2 ⟨hb2, hq2⟩; obtain ⟨_, rfl⟩ := hq2.resolve_left (fun h => HLL.out h.1); have HB2 := hide3 (below_then HB1.out hb2); clear hq2 hb2 HB1)
      | (go_at_call 4; refine HL1.out.mono ?_; rintro e w1 ⟨hb1, hq1⟩; obtain ⟨_, rfl⟩ := hq1.resolve_left (fun h => HLL.out h.1); have HB1 := hide3 hb1; clear hq1 hb1))
    go_ret
    exact ⟨rfl, HB5.out⟩
end Go.Proofs.YtogpkhpephhbiaaGreatDoor
namespace Go.Proofs.YtogpkhpephhbiaaGreatDoor
open Go.RowKit
set_option maxRecDepth 100000

theorem alt_known : altR ⟨#[94, 49, 46, 50, 46, 51]⟩ = some [(1002003, 1999999)] := by decide +kernel
theorem pieces_known : piecesB ⟨#[94, 49, 46, 50, 46, 51]⟩ ⟨#[124, 124]⟩ = [⟨#[94, 49, 46, 50, 46, 51]⟩] := by decide +kernel
theorem pieces_known2 : piecesB ⟨#[94, 49, 46, 50, 46, 51]⟩ ⟨#[32]⟩ = [⟨#[94, 49, 46, 50, 46, 51]⟩] := by decide +kernel
theorem print_known : printR [(1002003, 1999999)] = ⟨#[62, 61, 49, 46, 50, 46, 51, 32, 60, 61, 49, 46, 57, 57, 57, 46, 57, 57, 57]⟩ := by decide +kernel
theorem rg_known : RangeR [(1002003, 1999999)] := ⟨by decide, by decide, by decide, trivial⟩
theorem in_known : inL (([(1002003, 1999999)] : Rg).map spR) 1 9 0 = true := by
  rw [in_rg rg_known (by decide)]
  exact ⟨by decide, Or.inl (by decide)⟩
theorem ascii_of {l : List UInt8} (h : (l.all fun b => decide (b.toNat < 128)) = true) : ∀ (j : Nat) b, l[j]? = some b → b.toNat < 128 := by
  intro j b hj
  have := List.all_eq_true.1 h b (List.mem_of_getElem? hj)
  simpa using this
theorem plain_known : PlainT ⟨#[94, 49, 46, 50, 46, 51]⟩ := by
  unfold PlainT
  rw [pieces_known]
  intro a ha
  rw [List.mem_singleton] at ha
  subst ha
  rw [pieces_known2]
  intro p hp _
  rw [List.mem_singleton] at hp
  subst hp
  exact Or.inr (ascii_of (by decide))

end Go.Proofs.YtogpkhpephhbiaaGreatDoor
namespace Go.Proofs.YtogpkhpephhbiaaGreatDoor
open Go.ChangeShapes Go.WideShapes Go.ChangeAt Go.RowKit
set_option maxRecDepth 100000

theorem star : "*" ++ "errors.errorString" = "*errors.errorString" := by decide

theorem max_cell {W : World} (h : W.ShapedOpen Tryz.prog) : ∃ m, W.cell? ⟨0, 0, none⟩ = some (.int .i64 m) :=
  cell_of_shapedOpen_int (t := 3) (zero := #[.int .i64 0]) h (by decide +kernel) (by kernel_rfl) rfl (by kernel_rfl) (by kernel_rfl) Tryz.underlying3

end Go.Proofs.YtogpkhpephhbiaaGreatDoor
namespace Go.Proofs.YtogpkhpephhbiaaGreatDoor
open Go.ChangeShapes Go.WideShapes Go.ChangeAt Go.RowKit
set_option maxRecDepth 100000

theorem cellsSp : Tryz.prog.cellsOf 148 = 6 := by kernel_rfl

theorem ints_of {H : Type} {enc : TypeId × Value → H} {W : World} {base : Nat} {spare : Nat → Bool} {held : Bool} {n : Nat} {cs : List Value} {x : DataW H × List MemPlace} (h : DataW.trod enc Tryz.prog W base spare held n 59 cs = some x) :
    ∃ a b c, cs[0]? = some (.int .i64 a) ∧ cs[1]? = some (.int .i64 b) ∧ cs[2]? = some (.int .i64 c) ∧ x.1 = .agg [.lit (.int .i64 a), .lit (.int .i64 b), .lit (.int .i64 c)] := by
  have hs : Tryz.prog.underlying 59 = some (.struct (Tryz.prog.fieldsOf 59)) := by kernel_rfl
  obtain ⟨xs, n', _, hx, _, hxl, hf⟩ := DataW.trod_struct hs h
  have hfz : (Tryz.prog.fieldsOf 59).size = 3 := by kernel_rfl
  have ints : ∀ i off, ((Tryz.prog.fieldsOf 59)[i]?).map (fun f => (f.type, f.offset)) = some (3, off) → i < 3 → ∃ k, cs[off]? = some (.int .i64 k) ∧ xs[i]? = some (.lit (.int .i64 k), []) := by
    intro i off hfd hi
    obtain ⟨f, h1, h2, h3⟩ := field_at hfd
    have hr := hf i f h1
    rw [h2, h3, cellsInt, List.getElem?_eq_getElem (by omega : i < xs.length)] at hr
    obtain ⟨k, e1, e2, wk⟩ := DataW.trod_int Tryz.underlying3 hr
    exact ⟨k, take_one e1, by rw [List.getElem?_eq_getElem (by omega : i < xs.length), e2]⟩
  obtain ⟨a, a0, x0⟩ := ints 0 0 (by kernel_rfl) (by decide)
  obtain ⟨b, a1, x1⟩ := ints 1 1 (by kernel_rfl) (by decide)
  obtain ⟨c, a2, x2⟩ := ints 2 2 (by kernel_rfl) (by decide)
  refine ⟨a, b, c, a0, a1, a2, ?_⟩
  rw [hx]
  obtain ⟨y0, y1, y2, rfl⟩ := list3 (l := xs) (by omega)
  simp at x0 x1 x2
  subst x0 x1 x2
  rfl

theorem span_read {H : Type} {enc : TypeId × Value → H} {W : World} {base : Nat} {spare : Nat → Bool} {held : Bool} {n : Nat} {g o : Nat} {cs : List Value} {x : DataW H × List MemPlace} (hc : W.cells? base ⟨g, o, none⟩ 6 = some cs) (h : DataW.trod enc Tryz.prog W base spare held n 148 cs = some x) : ∃ s, SpAt W g o s := by
  have hs : Tryz.prog.underlying 148 = some (.struct (Tryz.prog.fieldsOf 148)) := by kernel_rfl
  obtain ⟨xs, n', _, _, _, hxl, hf⟩ := DataW.trod_struct hs h
  have hsz : (Tryz.prog.fieldsOf 148).size = 2 := by kernel_rfl
  obtain ⟨_, _, hq⟩ := World.cells?_some hc
  have vers : ∀ i off, ((Tryz.prog.fieldsOf 148)[i]?).map (fun f => (f.type, f.offset)) = some (59, off) → i < 2 → ∃ a b c, cs[off]? = some (.int .i64 a) ∧ cs[off + 1]? = some (.int .i64 b) ∧ cs[off + 2]? = some (.int .i64 c) := by
    intro i off hfd hi
    obtain ⟨f, h1, h2, h3⟩ := field_at hfd
    have hr := hf i f h1
    rw [h2, h3, cellsVer, List.getElem?_eq_getElem (by omega : i < xs.length)] at hr
    obtain ⟨a, b, c, e0, e1, e2, _⟩ := ints_of hr
    simp at e0 e1 e2
    exact ⟨a, b, c, e0, e1, e2⟩
  obtain ⟨a, b, c, a0, a1, a2⟩ := vers 0 0 (by kernel_rfl) (by decide)
  obtain ⟨x, y, z, a3, a4, a5⟩ := vers 1 3 (by kernel_rfl) (by decide)
  have ad : ∀ i, (⟨g, o, none⟩ : Addr).add i = ⟨g, o + i, none⟩ := fun i => by unfold Addr.add; split <;> simp_all
  have q0 := hq 0 (by decide)
  have q1 := hq 1 (by decide)
  have q2 := hq 2 (by decide)
  have q3 := hq 3 (by decide)
  have q4 := hq 4 (by decide)
  have q5 := hq 5 (by decide)
  rw [ad] at q0 q1 q2 q3 q4 q5
  exact ⟨⟨a, b, c, x, y, z⟩, by rw [← a0, ← q0]; rfl, by rw [← a1, ← q1], by rw [← a2, ← q2], by rw [← a3, ← q3], by rw [← a4, ← q4], by rw [← a5, ← q5]⟩

theorem list_of {P : Nat → Sp → Prop} : ∀ {n : Nat}, (∀ i, i < n → ∃ s, P i s) → ∃ L : List Sp, L.length = n ∧ ∀ i (h : i < L.length), P i L[i]
  | 0, _ => ⟨[], rfl, fun i h => by simp at h⟩
  | n + 1, h => by
    obtain ⟨L, hl, hP⟩ := list_of (n := n) fun i hi => h i (by omega)
    obtain ⟨s, hs⟩ := h n (by omega)
    refine ⟨L ++ [s], by simp [hl], fun i hi => ?_⟩
    by_cases hin : i < L.length
    · rw [List.getElem_append_left hin]; exact hP i hin
    · have : i = n := by simp at hi; omega
      subst this
      simpa [hl] using hs

/-- A list of spans that came in. -/
theorem open_spans {H : Type} {enc : TypeId × Value → H} {W : World} {base fuel : Nat} {held : Bool} {a : Option Addr} {len cap : Nat} {x : DataW H × List MemPlace} (h : DataW.trod enc Tryz.prog W base (fun _ => true) held fuel 135 [.slice a len cap] = some x) :
    ∃ L : List Sp, SpansC W (.slice a len cap) L := by
  rcases Go.Deep.open_slice Tryz.underlying135 h with ⟨hcs, _⟩ | ⟨ad, l, c, m, n, D, Pl, hcs, _, hl, _, hm, hx, hel⟩
  · simp only [List.cons.injEq, Value.slice.injEq, and_true] at hcs
    obtain ⟨rfl, rfl, rfl⟩ := hcs
    exact ⟨[], ⟨_, _, rfl, Or.inl rfl⟩, _, _, _, rfl, Nat.le_refl _⟩
  · simp only [List.cons.injEq, Value.slice.injEq, and_true] at hcs
    obtain ⟨rfl, rfl, rfl⟩ := hcs
    rcases Nat.eq_zero_or_pos len with h0 | h0
    · subst h0
      exact ⟨[], ⟨_, _, rfl, Or.inl rfl⟩, _, _, _, rfl, hl⟩
    · have hmm : len ≤ m := by rw [hm]; simp; exact hl
      rw [cellsSp] at hel
      obtain ⟨g, off, spot⟩ := ad
      obtain ⟨cs0, hc0, _⟩ := hel 0 (by omega)
      obtain ⟨_, hln, hq⟩ := World.cells?_some hc0
      have hcell := hq 0 (by decide)
      rw [List.getElem?_eq_getElem (by omega : 0 < cs0.length)] at hcell
      have hspot : spot = none := by simpa [Addr.add] using World.cell?_spot hcell
      subst hspot
      have ad2 : ∀ o i, (⟨g, o, none⟩ : Addr).add i = ⟨g, o + i, none⟩ := fun o i => by unfold Addr.add; split <;> simp_all
      obtain ⟨L, hL, hP⟩ := list_of (P := fun i s => SpAt W g (off + i * 6) s) (n := len) fun i hi => by
        obtain ⟨cs, hc, ht⟩ := hel i (by omega)
        rw [ad2] at hc
        exact span_read hc ht
      subst hL
      refine ⟨L, ⟨_, _, rfl, Or.inr ⟨g, off, rfl, ?_, hP⟩⟩, _, _, _, rfl, hl⟩
      have := cell_in hcell
      rw [ad2, ad2] at this; exact this

/-- A variable of three ints that is listed first. -/
theorem ver_laid {W : World} {nm : String} {a b c : Int} {r : List (String × DataW Unit)} {g : Nat} (hg : Tryz.prog.globalNamed nm = some g) (hty : (Tryz.prog.globals[g]?).map (·.type) = some 59)
    (h : laidMet Tryz.prog ((nm, .agg [.lit (.int .i64 a), .lit (.int .i64 b), .lit (.int .i64 c)]) :: r) W) :
    W.cell? ⟨g, 0, none⟩ = some (.int .i64 a) ∧ W.cell? ⟨g, 1, none⟩ = some (.int .i64 b) ∧ W.cell? ⟨g, 2, none⟩ = some (.int .i64 c) := by
  obtain ⟨ps, ⟨g', t', cs, fuel, p, q, hg', ht', hvar, hd, _, _⟩, _⟩ := h
  obtain rfl := Option.some.inj (hg.symm.trans hg')
  obtain rfl := Option.some.inj (hty.symm.trans ht')
  obtain ⟨x, y, z, e0, e1, e2, hx⟩ := ints_of hd
  simp at hx
  obtain ⟨rfl, rfl, rfl⟩ := hx
  have c0 := World.var?_cell hg hvar 0
  have c1 := World.var?_cell hg hvar 1
  have c2 := World.var?_cell hg hvar 2
  exact ⟨by rw [c0]; simpa using e0, by rw [c1]; simpa using e1, by rw [c2]; simpa using e2⟩

/-- What the rows of a layer without a parser list. -/
abbrev laid3 : List (String × DataW Unit) := [("math/bits.deBruijn32tab", Rows.laid_math_bits_deBruijn32tab), ("math/bits.deBruijn64tab", Rows.laid_math_bits_deBruijn64tab), ("internal/strconv.uint64pow10", Rows.laid_internal_strconv_uint64pow10), ("halyard/span.first", Rows.laid_halyard_span_first), ("halyard/span.last", Rows.laid_halyard_span_last)]
theorem env3_of {W : World} (h : laidMet Tryz.prog laid3 W) : Env W ∧ FL W := by
  have hT := tab_is h
  have h5 := laidMet.tail (laidMet.tail (laidMet.tail h))
  have h6 := laidMet.tail h5
  have f1 := ver_laid (g := 3) (by kernel_rfl) (by kernel_rfl) h5
  have f2 := ver_laid (g := 4) (by kernel_rfl) (by kernel_rfl) h6
  exact ⟨{ tab := hT }, f1, f2, cell_in f1.1, cell_in f2.1⟩

end Go.Proofs.YtogpkhpephhbiaaGreatDoor
namespace Go.Proofs.YtogpkhpephhbiaaGreatDoor
open Go.ChangeShapes Go.WideShapes Go.ChangeAt Go.RowKit
set_option maxRecDepth 100000

theorem cellsStrD : Tryz.prog.cellsOf 9 = 1 := by kernel_rfl
theorem cellsSps : Tryz.prog.cellsOf 135 = 1 := by kernel_rfl
theorem cellsDep : Tryz.prog.cellsOf 137 = 2 := by kernel_rfl
theorem cellsDeps : Tryz.prog.cellsOf 60 = 1 := by kernel_rfl
theorem list_any {α : Type} {P : Nat → α → Prop} : ∀ {n : Nat}, (∀ i, i < n → ∃ s, P i s) → ∃ L : List α, L.length = n ∧ ∀ i (h : i < L.length), P i L[i]
  | 0, _ => ⟨[], rfl, fun i h => by simp at h⟩
  | n + 1, h => by
    obtain ⟨L, hl, hP⟩ := list_any (n := n) fun i hi => h i (by omega)
    obtain ⟨s, hs⟩ := h n (by omega)
    refine ⟨L ++ [s], by simp [hl], fun i hi => ?_⟩
    by_cases hin : i < L.length
    · rw [List.getElem_append_left hin]; exact hP i hin
    · have : i = n := by simp at hi; omega
      subst this
      simpa [hl] using hs
theorem take1 {cs : List Value} {o : Nat} {v : Value} (h : (cs.drop o).take 1 = [v]) : cs[o]? = some v := by
  have h0 : ((cs.drop o).take 1)[0]? = some v := by rw [h]; rfl
  simpa using h0

theorem spans_cs {H : Type} {enc : TypeId × Value → H} {W : World} {base fuel : Nat} {held : Bool} {cs : List Value} {x : DataW H × List MemPlace} (h : DataW.trod enc Tryz.prog W base (fun _ => true) held fuel 135 cs = some x) :
    ∃ v L, cs = [v] ∧ SpansC W v L ∧ L.length ≤ 9223372036854775807 := by
  rcases Go.Deep.open_slice Tryz.underlying135 h with ⟨rfl, _⟩ | ⟨ad, l, c, m, n, D, Pl, rfl, _, hl, hm, _⟩
  · obtain ⟨L, hL⟩ := open_spans h
    obtain ⟨a', c', e, _⟩ := hL.1
    cases L with
    | nil => exact ⟨_, [], rfl, hL, by simp⟩
    | cons s L => simp at e
  · obtain ⟨L, hL⟩ := open_spans h
    refine ⟨_, L, rfl, hL, ?_⟩
    obtain ⟨a', c', e, _⟩ := hL.1
    simp only [Value.slice.injEq] at e
    obtain ⟨_, rfl, _⟩ := e
    unfold maxLen at hm
    omega
theorem dep_read {H : Type} {enc : TypeId × Value → H} {W : World} {base : Nat} {held : Bool} {n : Nat} {g o : Nat} {cs : List Value} {x : DataW H × List MemPlace} (hc : W.cells? base ⟨g, o, none⟩ 2 = some cs) (h : DataW.trod enc Tryz.prog W base (fun _ => true) held n 137 cs = some x) : ∃ d : Dp, (∃ u, DpIn W g o d u) ∧ d.nm.size ≤ 9223372036854775807 := by
  have hs : Tryz.prog.underlying 137 = some (.struct (Tryz.prog.fieldsOf 137)) := by kernel_rfl
  obtain ⟨xs, n', _, _, _, hxl, hf⟩ := DataW.trod_struct hs h
  have hsz : (Tryz.prog.fieldsOf 137).size = 2 := by kernel_rfl
  obtain ⟨_, hcl, hq⟩ := World.cells?_some hc
  obtain ⟨f0, i0, t0, o0⟩ := field_at (fs := Tryz.prog.fieldsOf 137) (i := 0) (ty := 9) (off := 0) (by kernel_rfl)
  obtain ⟨f1, i1, t1, o1⟩ := field_at (fs := Tryz.prog.fieldsOf 137) (i := 1) (ty := 135) (off := 1) (by kernel_rfl)
  have r0 := hf 0 f0 i0
  have r1 := hf 1 f1 i1
  rw [t0, o0, cellsStrD, List.getElem?_eq_getElem (by omega : 0 < xs.length)] at r0
  rw [t1, o1, cellsSps, List.getElem?_eq_getElem (by omega : 1 < xs.length)] at r1
  obtain ⟨s, e0, _, hs0⟩ := DataW.trod_string Tryz.underlying9 r0
  obtain ⟨v, L, e1, hL, hz⟩ := spans_cs r1
  have q0 := hq 0 (by decide)
  have q1 := hq 1 (by decide)
  have ad : ∀ i, (⟨g, o, none⟩ : Addr).add i = ⟨g, o + i, none⟩ := fun i => by unfold Addr.add; split <;> simp_all
  rw [ad, take1 e0] at q0
  rw [ad, take1 e1] at q1
  exact ⟨⟨s, L⟩, ⟨v, q0, q1, ⟨hL, hz⟩, cell_in q1⟩, by unfold maxLen at hs0; exact hs0⟩
/-- A list of dependencies that came in. -/
theorem deps_cs {H : Type} {enc : TypeId × Value → H} {W : World} {base fuel : Nat} {held : Bool} {cs : List Value} {x : DataW H × List MemPlace} (h : DataW.trod enc Tryz.prog W base (fun _ => true) held fuel 60 cs = some x) :
    ∃ v L, cs = [v] ∧ DepsAt W v L ∧ L.length ≤ 9223372036854775807 ∧ ∀ d ∈ L, d.nm.size ≤ 9223372036854775807 := by
  rcases Go.Deep.open_slice Tryz.underlying60 h with ⟨rfl, _⟩ | ⟨ad, len, cap, m, n, D, Pl, rfl, _, hl, hcm, hm, hx, hel⟩
  · exact ⟨_, [], rfl, ⟨none, 0, rfl, Nat.le_refl _, Or.inl rfl⟩, by simp, (fun d hd => by cases hd)⟩
  · have hz : len ≤ 9223372036854775807 := by unfold maxLen at hcm; omega
    rcases Nat.eq_zero_or_pos len with h0 | h0
    · subst h0
      exact ⟨_, [], rfl, ⟨_, _, rfl, Nat.zero_le _, Or.inl rfl⟩, by simp, (fun d hd => by cases hd)⟩
    · have hmm : len ≤ m := by rw [hm]; simp; exact hl
      rw [cellsDep] at hel
      obtain ⟨g, off, spot⟩ := ad
      obtain ⟨cs0, hc0, _⟩ := hel 0 (by omega)
      obtain ⟨_, hln, hq⟩ := World.cells?_some hc0
      have hcell := hq 0 (by decide)
      rw [List.getElem?_eq_getElem (by omega : 0 < cs0.length)] at hcell
      have hspot : spot = none := by simpa [Addr.add] using World.cell?_spot hcell
      subst hspot
      have ad2 : ∀ o i, (⟨g, o, none⟩ : Addr).add i = ⟨g, o + i, none⟩ := fun o i => by unfold Addr.add; split <;> simp_all
      obtain ⟨L, hL, hP⟩ := list_any (P := fun i (d : Dp) => (∃ u, DpIn W g (off + i * 2) d u) ∧ d.nm.size ≤ 9223372036854775807) (n := len) fun i hi => by
        obtain ⟨cs, hc, ht⟩ := hel i (by omega)
        rw [ad2] at hc
        exact dep_read hc ht
      subst hL
      refine ⟨_, L, rfl, ⟨_, _, rfl, hl, Or.inr ⟨g, off, rfl, ?_, fun i hi => (hP i hi).1⟩⟩, hz, ?_⟩
      · have := cell_in hcell
        rw [ad2, ad2] at this; exact this
      · intro d hd
        obtain ⟨i, hi, rfl⟩ := List.getElem_of_mem hd
        exact (hP i hi).2
end Go.Proofs.YtogpkhpephhbiaaGreatDoor
namespace Go.Proofs.YtogpkhpephhbiaaGreatDoor
open Go.ChangeShapes Go.WideShapes Go.ChangeAt Go.RowKit
set_option maxRecDepth 100000

theorem cellsPkg : Tryz.prog.cellsOf 62 = 7 := by kernel_rfl
theorem list7 {α : Type} {l : List α} (h : l.length = 7) : ∃ a b c d e f g, l = [a, b, c, d, e, f, g] := by
  match l, h with
  | [a, b, c, d, e, f, g], _ => exact ⟨a, b, c, d, e, f, g, rfl⟩
theorem open_pkg {H : Type} {enc : TypeId × Value → H} {W : World} {base b0 : Nat} {held : Bool} {v : Value} {d : DataW H} {p : List MemPlace} (hv : Value.okWide Tryz.prog W .any b0 62 v) (h : DataW.Trod enc Tryz.prog W base (fun _ => true) held 62 v d p) :
    ∃ (P : Pg) (v1 v2 v3 : Value), v = .agg #[.string P.nm, .int .i64 P.a, .int .i64 P.b, .int .i64 P.c, v1, v2, v3] ∧ PgAt W P v1 v2 v3 ∧ (P.d.length ≤ 9223372036854775807 ∧ P.p.length ≤ 9223372036854775807 ∧ P.o.length ≤ 9223372036854775807) ∧ (P.nm.size ≤ 9223372036854775807 ∧ (∀ d ∈ P.d, d.nm.size ≤ 9223372036854775807) ∧ (∀ d ∈ P.p, d.nm.size ≤ 9223372036854775807) ∧ ∀ d ∈ P.o, d.nm.size ≤ 9223372036854775807) := by
  have hs : Tryz.prog.underlying 62 = some (.struct (Tryz.prog.fieldsOf 62)) := by kernel_rfl
  obtain ⟨cs, rfl, hsz⟩ := okWide_struct hs hv
  obtain ⟨n, h⟩ := h
  obtain ⟨xs, n', _, _, _, hxl, hf⟩ := DataW.trod_struct hs h
  have hfz : (Tryz.prog.fieldsOf 62).size = 5 := by kernel_rfl
  rw [cellsPkg] at hsz
  obtain ⟨f0, i0, t0, o0⟩ := field_at (fs := Tryz.prog.fieldsOf 62) (i := 0) (ty := 9) (off := 0) (by kernel_rfl)
  obtain ⟨f1, i1, t1, o1⟩ := field_at (fs := Tryz.prog.fieldsOf 62) (i := 1) (ty := 59) (off := 1) (by kernel_rfl)
  obtain ⟨f2, i2, t2, o2⟩ := field_at (fs := Tryz.prog.fieldsOf 62) (i := 2) (ty := 60) (off := 4) (by kernel_rfl)
  obtain ⟨f3, i3, t3, o3⟩ := field_at (fs := Tryz.prog.fieldsOf 62) (i := 3) (ty := 60) (off := 5) (by kernel_rfl)
  obtain ⟨f4, i4, t4, o4⟩ := field_at (fs := Tryz.prog.fieldsOf 62) (i := 4) (ty := 60) (off := 6) (by kernel_rfl)
  have r0 := hf 0 f0 i0
  have r1 := hf 1 f1 i1
  have r2 := hf 2 f2 i2
  have r3 := hf 3 f3 i3
  have r4 := hf 4 f4 i4
  rw [t0, o0, cellsStrD, List.getElem?_eq_getElem (by omega : 0 < xs.length)] at r0
  rw [t1, o1, cellsVer, List.getElem?_eq_getElem (by omega : 1 < xs.length)] at r1
  rw [t2, o2, cellsDeps, List.getElem?_eq_getElem (by omega : 2 < xs.length)] at r2
  rw [t3, o3, cellsDeps, List.getElem?_eq_getElem (by omega : 3 < xs.length)] at r3
  rw [t4, o4, cellsDeps, List.getElem?_eq_getElem (by omega : 4 < xs.length)] at r4
  obtain ⟨s, e0, _, hs0⟩ := DataW.trod_string Tryz.underlying9 r0
  obtain ⟨a, b, c, ea, eb, ec, _⟩ := ints_of r1
  obtain ⟨v1, L1, e2, h1, z1, m1⟩ := deps_cs r2
  obtain ⟨v2, L2, e3, h2, z2, m2⟩ := deps_cs r3
  obtain ⟨v3, L3, e4, h3, z3, m3⟩ := deps_cs r4
  have k0 : cs.toList[0]? = some (.string s) := take1 e0
  have k2 : cs.toList[4]? = some v1 := take1 e2
  have k3 : cs.toList[5]? = some v2 := take1 e3
  have k4 : cs.toList[6]? = some v3 := take1 e4
  have ka : ((cs.toList.drop 1).take 3)[0]? = some (.int .i64 a) := ea
  have kb : ((cs.toList.drop 1).take 3)[1]? = some (.int .i64 b) := eb
  have kc : ((cs.toList.drop 1).take 3)[2]? = some (.int .i64 c) := ec
  obtain ⟨l⟩ := cs
  obtain ⟨x0, x1, x2, x3, x4, x5, x6, rfl⟩ := list7 (l := l) (by simpa using hsz)
  simp at k0 k2 k3 k4 ka kb kc
  subst k0 k2 k3 k4 ka kb kc
  exact ⟨⟨s, a, b, c, L1, L2, L3⟩, _, _, _, rfl, ⟨h1, h2, h3⟩, ⟨z1, z2, z3⟩, by unfold maxLen at hs0; exact hs0, m1, m2, m3⟩
end Go.Proofs.YtogpkhpephhbiaaGreatDoor
namespace Go.Proofs.YtogpkhpephhbiaaGreatDoor
open Go.ChangeShapes Go.WideShapes Go.ChangeAt Go.RowKit
set_option maxRecDepth 100000

theorem each_all {H : Type} : ∀ {ts : List TypeId} {ds : List (DataW H)} {i : Nat} {t : TypeId} {d : DataW H}, (DataW.weightsEach Tryz.prog ts ds).all (· ≤ reachBytes) = true → ts[i]? = some t → ds[i]? = some d → (d.weights Tryz.prog t).all (· ≤ reachBytes) = true
  | [], _, _, _, _, _, h, _ => by simp at h
  | _ :: _, [], _, _, _, _, _, h => by simp at h
  | t :: ts, d :: ds, 0, t', d', ha, h1, h2 => by
    simp at h1 h2
    subst h1 h2
    unfold DataW.weightsEach at ha
    rw [List.all_append, Bool.and_eq_true] at ha
    exact ha.1
  | t :: ts, d :: ds, i + 1, t', d', ha, h1, h2 => by
    unfold DataW.weightsEach at ha
    rw [List.all_append, Bool.and_eq_true] at ha
    exact each_all ha.2 (by simpa using h1) (by simpa using h2)

theorem all_each {H : Type} {t : TypeId} : ∀ {ds : List (DataW H)} {d : DataW H}, (DataW.weightsAll Tryz.prog t ds).all (· ≤ reachBytes) = true → d ∈ ds → (d.weights Tryz.prog t).all (· ≤ reachBytes) = true
  | [], _, _, h => by cases h
  | d :: ds, d', ha, h => by
    unfold DataW.weightsAll at ha
    rw [List.all_append, Bool.and_eq_true] at ha
    rcases List.mem_cons.1 h with rfl | h
    · exact ha.1
    · exact all_each ha.2 h

theorem rch_part {H : Type} {t : TypeId} {fs : Array Field} (ht : Tryz.prog.underlying t = some (.struct fs)) {parts : List (DataW H)} (h : ((DataW.agg parts).weights Tryz.prog t).all (· ≤ reachBytes) = true) {i : Nat} {f : Field} (hf : fs[i]? = some f) {d : DataW H} (hd : parts[i]? = some d) : (d.weights Tryz.prog f.type).all (· ≤ reachBytes) = true := by
  unfold DataW.weights at h
  rw [ht] at h
  refine each_all h (i := i) (t := f.type) ?_ hd
  rw [List.getElem?_map, Array.getElem?_toList, hf]
  rfl

theorem rch_slice {H : Type} {t e : TypeId} (ht : Tryz.prog.underlying t = some (.slice e)) {el sp : List (DataW H)} (h : ((DataW.slice el sp).weights Tryz.prog t).all (· ≤ reachBytes) = true) : (el.length + sp.length) * Tryz.prog.bytesOf e ≤ reachBytes ∧ ∀ d ∈ el, (d.weights Tryz.prog e).all (· ≤ reachBytes) = true := by
  unfold DataW.weights at h
  rw [ht] at h
  rw [List.all_cons, Bool.and_eq_true, List.all_append, Bool.and_eq_true] at h
  exact ⟨of_decide_eq_true h.1, fun d hd => all_each h.2.1 hd⟩

theorem cellsStrsT : Tryz.prog.cellsOf 53 = 1 := by kernel_rfl
theorem cellsDirT : Tryz.prog.cellsOf 64 = 9 := by kernel_rfl
theorem cellsDirsT : Tryz.prog.cellsOf 65 = 1 := by kernel_rfl
theorem cellsTreeT : Tryz.prog.cellsOf 67 = 1 := by kernel_rfl
theorem bytesStrT : Tryz.prog.bytesOf 9 = 16 := by kernel_rfl
theorem addT (g o i : Nat) : (⟨g, o, none⟩ : Addr).add i = ⟨g, o + i, none⟩ := by unfold Addr.add; split <;> simp_all

/-- Names that came in. -/
theorem strs_cs {H : Type} {enc : TypeId × Value → H} {W : World} {base fuel : Nat} {held : Bool} {cs : List Value} {x : DataW H × List MemPlace} (h : DataW.trod enc Tryz.prog W base (fun _ => true) held fuel 53 cs = some x) :
    ∃ v L, cs = [v] ∧ PathAt W v L ∧ (∀ s ∈ L, s.size ≤ 9223372036854775807) ∧ ((x.1.weights Tryz.prog 53).all (· ≤ reachBytes) = true → L.length * 16 ≤ 140737488355328) := by
  rcases Go.Deep.open_slice Tryz.underlying53 h with ⟨rfl, _⟩ | ⟨ad, len, cap, m, n, D, Pl, rfl, _, hl, hcm, hm, hx, hel⟩
  · exact ⟨_, [], rfl, ⟨none, 0, rfl, Nat.le_refl _, Or.inl rfl⟩, (fun s hs => by cases hs), fun _ => by simp⟩
  · have hwt : (x.1.weights Tryz.prog 53).all (· ≤ reachBytes) = true → len * 16 ≤ 140737488355328 := fun hr => by
      have hxi : x.1 = .slice ((List.range len).map D) ((List.range (m - len)).map fun j => D (len + j)) := by rw [hx]
      rw [hxi] at hr
      have hb := (rch_slice Tryz.underlying53 hr).1
      rw [List.length_map, List.length_range, bytesStrT] at hb
      unfold reachBytes at hb
      omega
    rcases Nat.eq_zero_or_pos len with h0 | h0
    · subst h0
      exact ⟨_, [], rfl, ⟨_, _, rfl, Nat.zero_le _, Or.inl rfl⟩, (fun s hs => by cases hs), fun _ => by simp⟩
    · have hmm : len ≤ m := by rw [hm]; simp; exact hl
      rw [cellsStrD] at hel
      obtain ⟨g, off, spot⟩ := ad
      obtain ⟨cs0, hc0, _⟩ := hel 0 (by omega)
      obtain ⟨_, hln, hq⟩ := World.cells?_some hc0
      have hcell := hq 0 (by decide)
      rw [List.getElem?_eq_getElem (by omega : 0 < cs0.length)] at hcell
      have hspot : spot = none := by simpa [Addr.add] using World.cell?_spot hcell
      subst hspot
      obtain ⟨L, hL, hP⟩ := list_any (P := fun i (s : ByteArray) => StIn W g (off + i) s ∧ s.size ≤ 9223372036854775807) (n := len) fun i hi => by
        obtain ⟨cs, hc, ht⟩ := hel i (by omega)
        rw [addT, Nat.mul_one] at hc
        obtain ⟨_, hcl, hq⟩ := World.cells?_some hc
        obtain ⟨s, e0, _, hs0⟩ := DataW.trod_string Tryz.underlying9 ht
        have q0 := hq 0 (by decide)
        rw [addT, e0] at q0
        exact ⟨s, ⟨q0, Sc.cell_in q0⟩, by unfold maxLen at hs0; exact hs0⟩
      subst hL
      refine ⟨_, L, rfl, ⟨_, _, rfl, hl, Or.inr ⟨g, off, rfl, fun i hi => (hP i hi).1⟩⟩, ?_, hwt⟩
      intro s hs
      obtain ⟨i, hi, rfl⟩ := List.getElem_of_mem hs
      exact (hP i hi).2

/-- The names of a package's lists are not too great. -/
def PgN (P : Pg) : Prop := P.nm.size ≤ 9223372036854775807 ∧ (∀ d ∈ P.d, d.nm.size ≤ 9223372036854775807) ∧ (∀ d ∈ P.p, d.nm.size ≤ 9223372036854775807) ∧ ∀ d ∈ P.o, d.nm.size ≤ 9223372036854775807
/-- A package's cells. -/
theorem pkg_cs {H : Type} {enc : TypeId × Value → H} {W : World} {base fuel : Nat} {held : Bool} {cs : List Value} {x : DataW H × List MemPlace} (h : DataW.trod enc Tryz.prog W base (fun _ => true) held fuel 62 cs = some x) :
    ∃ (P : Pg) (v1 v2 v3 : Value), (cs[0]? = some (.string P.nm) ∧ cs[1]? = some (.int .i64 P.a) ∧ cs[2]? = some (.int .i64 P.b) ∧ cs[3]? = some (.int .i64 P.c) ∧ cs[4]? = some v1 ∧ cs[5]? = some v2 ∧ cs[6]? = some v3) ∧ PgAt W P v1 v2 v3 ∧ PgZ P ∧ PgN P := by
  have hs : Tryz.prog.underlying 62 = some (.struct (Tryz.prog.fieldsOf 62)) := by kernel_rfl
  obtain ⟨xs, n', _, _, _, hxl, hf⟩ := DataW.trod_struct hs h
  have hfz : (Tryz.prog.fieldsOf 62).size = 5 := by kernel_rfl
  obtain ⟨f0, i0, t0, o0⟩ := field_at (fs := Tryz.prog.fieldsOf 62) (i := 0) (ty := 9) (off := 0) (by kernel_rfl)
  obtain ⟨f1, i1, t1, o1⟩ := field_at (fs := Tryz.prog.fieldsOf 62) (i := 1) (ty := 59) (off := 1) (by kernel_rfl)
  obtain ⟨f2, i2, t2, o2⟩ := field_at (fs := Tryz.prog.fieldsOf 62) (i := 2) (ty := 60) (off := 4) (by kernel_rfl)
  obtain ⟨f3, i3, t3, o3⟩ := field_at (fs := Tryz.prog.fieldsOf 62) (i := 3) (ty := 60) (off := 5) (by kernel_rfl)
  obtain ⟨f4, i4, t4, o4⟩ := field_at (fs := Tryz.prog.fieldsOf 62) (i := 4) (ty := 60) (off := 6) (by kernel_rfl)
  have r0 := hf 0 f0 i0
  have r1 := hf 1 f1 i1
  have r2 := hf 2 f2 i2
  have r3 := hf 3 f3 i3
  have r4 := hf 4 f4 i4
  rw [t0, o0, cellsStrD, List.getElem?_eq_getElem (by omega : 0 < xs.length)] at r0
  rw [t1, o1, cellsVer, List.getElem?_eq_getElem (by omega : 1 < xs.length)] at r1
  rw [t2, o2, cellsDeps, List.getElem?_eq_getElem (by omega : 2 < xs.length)] at r2
  rw [t3, o3, cellsDeps, List.getElem?_eq_getElem (by omega : 3 < xs.length)] at r3
  rw [t4, o4, cellsDeps, List.getElem?_eq_getElem (by omega : 4 < xs.length)] at r4
  obtain ⟨s, e0, _, hs0⟩ := DataW.trod_string Tryz.underlying9 r0
  obtain ⟨a, b, c, ea, eb, ec, _⟩ := ints_of r1
  obtain ⟨v1, L1, e2, h1, z1, m1⟩ := deps_cs r2
  obtain ⟨v2, L2, e3, h2, z2, m2⟩ := deps_cs r3
  obtain ⟨v3, L3, e4, h3, z3, m3⟩ := deps_cs r4
  have ka : ((cs.drop 1).take 3)[0]? = some (.int .i64 a) := ea
  have kb : ((cs.drop 1).take 3)[1]? = some (.int .i64 b) := eb
  have kc : ((cs.drop 1).take 3)[2]? = some (.int .i64 c) := ec
  simp at ka kb kc
  exact ⟨⟨s, a, b, c, L1, L2, L3⟩, v1, v2, v3, ⟨take1 e0, ka, kb, kc, take1 e2, take1 e3, take1 e4⟩, ⟨h1, h2, h3⟩, ⟨z1, z2, z3⟩, by unfold maxLen at hs0; exact hs0, m1, m2, m3⟩

/-- A directory that came in is not too great. -/
def DrN (d : Dr) : Prop := PgZ d.pk ∧ PgN d.pk ∧ ∀ s ∈ d.pa, s.size ≤ 9223372036854775807
theorem take7 {cs : List Value} {i : Nat} (hi : i < 7) : ((cs.drop 1).take 7)[i]? = cs[i + 1]? := by
  rw [List.getElem?_take, if_pos hi, List.getElem?_drop, Nat.add_comm]
theorem dir_read {H : Type} {enc : TypeId × Value → H} {W : World} {base : Nat} {held : Bool} {n : Nat} {g o : Nat} {cs : List Value} {x : DataW H × List MemPlace} (hc : W.cells? base ⟨g, o, none⟩ 9 = some cs) (h : DataW.trod enc Tryz.prog W base (fun _ => true) held n 64 cs = some x) :
    ∃ D : Dr, (∃ u v1 v2 v3, DrIn W g o D u v1 v2 v3) ∧ DrN D ∧ ((x.1.weights Tryz.prog 64).all (· ≤ reachBytes) = true → D.pa.length * 16 ≤ 140737488355328) := by
  have hs : Tryz.prog.underlying 64 = some (.struct (Tryz.prog.fieldsOf 64)) := by kernel_rfl
  obtain ⟨xs, n', _, hxx, _, hxl, hf⟩ := DataW.trod_struct hs h
  have hfz : (Tryz.prog.fieldsOf 64).size = 3 := by kernel_rfl
  obtain ⟨_, hcl, hq⟩ := World.cells?_some hc
  obtain ⟨f0, i0, t0, o0⟩ := field_at (fs := Tryz.prog.fieldsOf 64) (i := 0) (ty := 53) (off := 0) (by kernel_rfl)
  obtain ⟨f1, i1, t1, o1⟩ := field_at (fs := Tryz.prog.fieldsOf 64) (i := 1) (ty := 62) (off := 1) (by kernel_rfl)
  obtain ⟨f2, i2, t2, o2⟩ := field_at (fs := Tryz.prog.fieldsOf 64) (i := 2) (ty := 3) (off := 8) (by kernel_rfl)
  have r0 := hf 0 f0 i0
  have r1 := hf 1 f1 i1
  have r2 := hf 2 f2 i2
  rw [t0, o0, cellsStrsT, List.getElem?_eq_getElem (by omega : 0 < xs.length)] at r0
  rw [t1, o1, cellsPkg, List.getElem?_eq_getElem (by omega : 1 < xs.length)] at r1
  rw [t2, o2, cellsInt, List.getElem?_eq_getElem (by omega : 2 < xs.length)] at r2
  obtain ⟨u, L, e0, hp, hsz, hwt⟩ := strs_cs r0
  obtain ⟨P, v1, v2, v3, ⟨p0, p1, p2, p3, p4, p5, p6⟩, hpg, hpz, hpn⟩ := pkg_cs r1
  obtain ⟨k, e2, _, _⟩ := DataW.trod_int Tryz.underlying3 r2
  rw [take7 (by decide)] at p0 p1 p2 p3 p4 p5 p6
  have c0 := hq 0 (by decide)
  have c1 := hq 1 (by decide)
  have c2 := hq 2 (by decide)
  have c3 := hq 3 (by decide)
  have c4 := hq 4 (by decide)
  have c5 := hq 5 (by decide)
  have c6 := hq 6 (by decide)
  have c7 := hq 7 (by decide)
  have c8 := hq 8 (by decide)
  rw [addT, take1 e0] at c0
  rw [addT, p0] at c1
  rw [addT, p1] at c2
  rw [addT, p2] at c3
  rw [addT, p3] at c4
  rw [addT, p4] at c5
  rw [addT, p5] at c6
  rw [addT, p6] at c7
  rw [addT, take_one e2] at c8
  refine ⟨⟨L, P, k⟩, ⟨u, v1, v2, v3, ⟨c0, c1, c2, c3, c4, c5, c6, c7, c8⟩, ⟨hp, hpg⟩, Sc.cell_in c0⟩, ⟨hpz, hpn, hsz⟩, fun hr => ?_⟩
  have hd : x.1 = .agg (xs.map (·.1)) := congrArg Prod.fst hxx
  rw [hd] at hr
  have hp2 := rch_part hs hr i0 (d := xs[0].1) (by rw [List.getElem?_map, List.getElem?_eq_getElem (by omega : 0 < xs.length)]; rfl)
  rw [t0] at hp2
  exact hwt hp2

/-- Directories that came in. -/
theorem dirs_cs {H : Type} {enc : TypeId × Value → H} {W : World} {base fuel : Nat} {held : Bool} {cs : List Value} {x : DataW H × List MemPlace} (h : DataW.trod enc Tryz.prog W base (fun _ => true) held fuel 65 cs = some x) :
    ∃ v L, cs = [v] ∧ DirsAt W v L ∧ L.length ≤ 9223372036854775807 ∧ (∀ d ∈ L, DrN d) ∧ ((x.1.weights Tryz.prog 65).all (· ≤ reachBytes) = true → FitP1 L) := by
  rcases Go.Deep.open_slice Tryz.underlying65 h with ⟨rfl, _⟩ | ⟨ad, len, cap, m, n, D, Pl, rfl, _, hl, hcm, hm, hx, hel⟩
  · exact ⟨_, [], rfl, ⟨none, 0, rfl, Nat.le_refl _, Or.inl rfl⟩, by simp, (fun d hd => by cases hd), fun _ d hd => by cases hd⟩
  · have hz : len ≤ 9223372036854775807 := by unfold maxLen at hcm; omega
    rcases Nat.eq_zero_or_pos len with h0 | h0
    · subst h0
      exact ⟨_, [], rfl, ⟨_, _, rfl, Nat.zero_le _, Or.inl rfl⟩, by simp, (fun d hd => by cases hd), fun _ d hd => by cases hd⟩
    · have hmm : len ≤ m := by rw [hm]; simp; exact hl
      rw [cellsDirT] at hel
      obtain ⟨g, off, spot⟩ := ad
      obtain ⟨cs0, hc0, _⟩ := hel 0 (by omega)
      obtain ⟨_, hln, hq⟩ := World.cells?_some hc0
      have hcell := hq 0 (by decide)
      rw [List.getElem?_eq_getElem (by omega : 0 < cs0.length)] at hcell
      have hspot : spot = none := by simpa [Addr.add] using World.cell?_spot hcell
      subst hspot
      obtain ⟨L, hL, hP⟩ := list_any (P := fun i (d : Dr) => (∃ u v1 v2 v3, DrIn W g (off + i * 9) d u v1 v2 v3) ∧ DrN d ∧ (((D i).weights Tryz.prog 64).all (· ≤ reachBytes) = true → d.pa.length * 16 ≤ 140737488355328)) (n := len) fun i hi => by
        obtain ⟨cs, hc, ht⟩ := hel i (by omega)
        rw [addT] at hc
        exact dir_read hc ht
      subst hL
      refine ⟨_, L, rfl, ⟨_, _, rfl, hl, Or.inr ⟨g, off, rfl, fun i hi => (hP i hi).1⟩⟩, hz, ?_, fun hr => ?_⟩
      · intro d hd
        obtain ⟨i, hi, rfl⟩ := List.getElem_of_mem hd
        exact (hP i hi).2.1
      · intro d hd
        obtain ⟨i, hi, rfl⟩ := List.getElem_of_mem hd
        have hxi : x.1 = .slice ((List.range L.length).map D) ((List.range (m - L.length)).map fun j => D (L.length + j)) := by rw [hx]
        rw [hxi] at hr
        exact (hP i hi).2.2 ((rch_slice Tryz.underlying65 hr).2 (D i) (List.mem_map.2 ⟨i, List.mem_range.2 (by omega), rfl⟩))

/-- A tree that came in. -/
theorem open_tree {H : Type} {enc : TypeId × Value → H} {W : World} {base b0 : Nat} {held : Bool} {v : Value} {d : DataW H} {p : List MemPlace} (hv : Value.okWide Tryz.prog W .any b0 67 v) (h : DataW.Trod enc Tryz.prog W base (fun _ => true) held 67 v d p) :
    ∃ (L : List Dr) (vt : Value), v = .agg #[vt] ∧ DirsAt W vt L ∧ L.length ≤ 9223372036854775807 ∧ (∀ d ∈ L, DrN d) ∧ ((d.weights Tryz.prog 67).all (· ≤ reachBytes) = true → FitP1 L) := by
  have hs : Tryz.prog.underlying 67 = some (.struct (Tryz.prog.fieldsOf 67)) := by kernel_rfl
  obtain ⟨cs, rfl, hsz⟩ := okWide_struct hs hv
  obtain ⟨n, h⟩ := h
  obtain ⟨xs, n', _, hxx, _, hxl, hf⟩ := DataW.trod_struct hs h
  have hfz : (Tryz.prog.fieldsOf 67).size = 1 := by kernel_rfl
  obtain ⟨f0, i0, t0, o0⟩ := field_at (fs := Tryz.prog.fieldsOf 67) (i := 0) (ty := 65) (off := 0) (by kernel_rfl)
  have r0 := hf 0 f0 i0
  rw [t0, o0, cellsDirsT, List.getElem?_eq_getElem (by omega : 0 < xs.length)] at r0
  obtain ⟨vt, L, e0, hd, hz, hn, hwt⟩ := dirs_cs r0
  have k0 : cs.toList[0]? = some vt := take1 e0
  rw [cellsTreeT] at hsz
  refine ⟨L, vt, ?_, hd, hz, hn, fun hr => ?_⟩
  · congr 1
    apply Array.ext'
    rcases hcs : cs.toList with _ | ⟨y, _ | ⟨z, r⟩⟩
    · rw [hcs] at k0; cases k0
    · rw [hcs] at k0
      simp at k0
      rw [k0]
    · have : cs.toList.length = 1 := by rw [Array.length_toList]; exact hsz
      rw [hcs] at this
      simp at this
  · have hdd : d = .agg (xs.map (·.1)) := congrArg Prod.fst hxx
    rw [hdd] at hr
    have hp2 := rch_part hs hr i0 (d := xs[0].1) (by rw [List.getElem?_map, List.getElem?_eq_getElem (by omega : 0 < xs.length)]; rfl)
    rw [t0] at hp2
    exact hwt hp2
theorem drs_ok {L : List Dr} (h1 : FitP1 L) (h2 : ∀ d ∈ L, DrN d) : DrsOk L := ⟨h1, fun d hd => (h2 d hd).1⟩
end Go.Proofs.YtogpkhpephhbiaaGreatDoor
namespace Go.Proofs.YtogpkhpephhbiaaGreatDoor
open Go.ChangeShapes Go.WideShapes Go.ChangeAt Go.RowKit
set_option maxRecDepth 100000

/-- A path that came in. -/
theorem open_path {H : Type} {enc : TypeId × Value → H} {W : World} {base b0 : Nat} {held : Bool} {v : Value} {d : DataW H} {p : List MemPlace} (hv : Value.okWide Tryz.prog W .any b0 53 v) (h : DataW.Trod enc Tryz.prog W base (fun _ => true) held 53 v d p) :
    ∃ L : List ByteArray, PathAt W v L ∧ (∀ s ∈ L, s.size ≤ 9223372036854775807) ∧ ((d.weights Tryz.prog 53).all (· ≤ reachBytes) = true → L.length * 16 ≤ 140737488355328) := by
  obtain ⟨ad, len, cap, rfl⟩ := okWide_slice Tryz.underlying53 hv
  obtain ⟨fuel, hf⟩ := h
  have hf2 : DataW.trod enc Tryz.prog W base (fun _ => true) held fuel 53 [.slice ad len cap] = some (d, p) := by simpa [Value.cells] using hf
  obtain ⟨v, L, e, hp, hs, hw⟩ := strs_cs hf2
  cases e
  exact ⟨L, hp, hs, hw⟩

/-- A text that came in is not too great. -/
theorem str_reach {H : Type} {s : ByteArray} {t : TypeId} (h : ((DataW.lit (.string s.data.toList) : DataW H).weights Tryz.prog t).all (· ≤ reachBytes) = true) : s.size ≤ 140737488351232 := by
  unfold DataW.weights at h
  rw [List.all_cons, Bool.and_eq_true] at h
  have h1 := of_decide_eq_true h.1
  unfold reachBytes at h1
  rw [list_size] at h1
  exact h1
end Go.Proofs.YtogpkhpephhbiaaGreatDoor
namespace Go.Proofs.YtogpkhpephhbiaaGreatDoor
open Go.ChangeShapes Go.WideShapes Go.ChangeAt Go.RowKit
set_option maxRecDepth 100000

/-- What a row lists that reaches the disk, but no parser of numbers. -/
abbrev laidD : List (String × DataW Unit) := [("math/bits.deBruijn32tab", Rows.laid_math_bits_deBruijn32tab), ("math/bits.deBruijn64tab", Rows.laid_math_bits_deBruijn64tab), ("internal/strconv.uint64pow10", Rows.laid_internal_strconv_uint64pow10), ("unicode/utf8.acceptRanges", Rows.laid_unicode_utf8_acceptRanges), ("halyard/span.first", Rows.laid_halyard_span_first), ("halyard/span.last", Rows.laid_halyard_span_last), ("unicode/utf8.first", Rows.laid_unicode_utf8_first)]
theorem envD_of {W : World} (h : laidMet Tryz.prog laidD W) : Env W ∧ FL W := by
  have hT := tab_is h
  have h5 := laidMet.tail (laidMet.tail (laidMet.tail (laidMet.tail h)))
  have h6 := laidMet.tail h5
  have f1 := ver_laid (g := 3) (by kernel_rfl) (by kernel_rfl) h5
  have f2 := ver_laid (g := 4) (by kernel_rfl) (by kernel_rfl) h6
  exact ⟨{ tab := hT }, f1, f2, cell_in f1.1, cell_in f2.1⟩

theorem bytesFile : Tryz.prog.bytesOf 37 = 40 := by kernel_rfl
/-- Files that came in. -/
theorem open_filesB {H : Type} {enc : TypeId × Value → H} {W : World} {base b0 : Nat} {held : Bool} {v : Value} {d : DataW H} {p : List MemPlace} (hv : Value.okWide Tryz.prog W .any b0 22 v) (h : DataW.Trod enc Tryz.prog W base (fun _ => true) held 22 v d p) :
    ∃ (fs : List Dk.Fl) (a : Option Addr) (cap : Nat), v = .slice a fs.length cap ∧ Dk.IsFiles W a fs ∧ (∀ f ∈ fs, f.1.size ≤ maxLen ∧ f.2.2.size ≤ maxLen) ∧ ((d.weights Tryz.prog 22).all (· ≤ reachBytes) = true → fs.length ≤ 3518437208790) := by
  obtain ⟨ad, len, cap, rfl⟩ := okWide_slice Tryz.underlying22 hv
  obtain ⟨fuel, hf⟩ := h
  obtain ⟨fs, hl, hf2, hz, hd⟩ := Dk.open_files (x := (d, p)) (by simpa [Value.cells] using hf)
  refine ⟨fs, ad, cap, by rw [hl], hf2, hz, fun hr => ?_⟩
  rcases hd with h0 | ⟨el, sp, e, hle⟩
  · omega
  · simp only at e
    subst e
    have := (rch_slice Tryz.underlying22 hr).1
    rw [bytesFile] at this
    unfold reachBytes at this
    omega
end Go.Proofs.YtogpkhpephhbiaaGreatDoor
