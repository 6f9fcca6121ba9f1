/- Pk6, Pk7, Tw5, Ps2, Pk8, laid in one text. -/
import Derived.Test.YtcclfaioicklaaaGreatDoorScC
import Derived.Deep.RegionHeld3
import Derived.Test.YtcclfaioicklaaaGreatDoorMg07
namespace Go.Proofs.YtcclfaioicklaaaGreatDoor
open Go.RowKit
set_option maxRecDepth 100000

/-- All but a builder's own memory is as it was. -/
def FarB (b : Nat) (w w' : World) : Prop := ∀ N cs t fr, w.heap[N]? = some (.cells cs t fr) → t ≠ 5 → N ≠ b → w'.heap[N]? = some (.cells cs t fr)

theorem FarB.refl (b : Nat) (w : World) : FarB b w w := fun _ _ _ _ h _ _ => h

theorem FarB.trans {b : Nat} {w w1 w2 : World} (h : FarB b w w1) (h2 : FarB b w1 w2) : FarB b w w2 := fun N cs t fr hh ht hn => h2 N cs t fr (h N cs t fr hh ht hn) ht hn

theorem FarB.set {b : Nat} {w w1 : World} (h : FarB b w w1) (i : Nat) (u : Value) : FarB b w (w1.setCell ⟨b, i, none⟩ u) := fun N cs t fr hh ht hn => (Below.heap_setCell _ _ _ _ hn).trans (h N cs t fr hh ht hn)

theorem FarB.below {b : Nat} {w w' : World} (h : Below w.heap.size w w') : FarB b w w' := fun N _ _ _ hh _ _ => (h.block N (Array.getElem?_eq_some_iff.1 hh).1).trans hh

theorem check_far {B b : Nat} {l : Sc.Bs} {w : World} (h : Sc.Bld B b l w) :
    Calls Tryz.prog 66 #[.pointer (some ⟨b, 0, none⟩)] w fun e w' => e = .returned (.tuple #[]) ∧ Lib.BuilderAt 63 5 B b (.pointer (some ⟨b, 0, none⟩)) (Lib.byteCells l) w' ∧ Below B w w' ∧ FarB b w w' := by
  rcases h with h | h
  · refine (Sc.check_fresh b w h.cell0 h.shape h.frozen0).mono ?_
    rintro e w' ⟨rfl, rfl⟩
    exact ⟨rfl, h.used _, (Below.refl B w).setCell (p := ⟨b, 0, none⟩) h.1 _, (FarB.refl b w).set _ _⟩
  · refine (Sc.check_used b w h.cell0).mono ?_
    rintro e w' ⟨rfl, rfl⟩
    exact ⟨rfl, h, Below.refl B _, FarB.refl b _⟩

set_option maxHeartbeats 1600000 in
theorem putText_far {B b : Nat} {l : Sc.Bs} {w : World} (s : ByteArray) (h : Sc.Bld B b l w) (hl : l.length + s.size ≤ 140737488355328) (hB : B ≤ w.heap.size) :
    Calls Tryz.prog 35 #[.pointer (some ⟨b, 0, none⟩), .string s] w fun e w' => e = .returned (.tuple #[.int .i64 s.size, .nilIface]) ∧ Sc.Bld B b (l ++ s.data.toList) w' ∧ Below B w w' ∧ FarB b w w' := by
  obtain ⟨i0, hi, hz0, hz1, hz2⟩ := Sc.info_parts Sc.bByte
  have HC := hide3 (check_far h)
  have hlc : (Lib.byteCells l).length = l.length := Lib.byteCells_length l
  go_enter Tryz.func35, Tryz.ntmps35
  go_wp2_with (go_at_call 66; refine HC.out.mono ?_)
  rintro e w1 ⟨rfl, h1, hb1, hf1⟩
  obtain ⟨hBb, v, hbk, hown, hne⟩ := h1
  have c0 : w1.cell? ⟨b, 0, none⟩ = some (.pointer (some ⟨b, 0, none⟩)) := by rw [Lib.cell_of_heap hbk]; rfl
  have c1 : w1.cell? ⟨b, 1, none⟩ = some v := by rw [Lib.cell_of_heap hbk]; rfl
  have hs1 := hb1.size
  go_wp2_with (at_builtin; refine Lib.wpList_append_own_string _ rfl _ _ 61 9 rfl B 5 i0 Tryz.underlying61 Tryz.underlying9 hi hz0 hz1 hz2 _ _ _ rfl hown s rfl (by unfold maxLen; omega) (by omega) (by omega) ?_)
  intro v' w2 hown' hgrow _
  have hlt : b < w1.heap.size := (Array.getElem?_eq_some_iff.1 hbk).1
  have hb2 : w2.heap[b]? = some (.cells #[.pointer (some ⟨b, 0, none⟩), v] 63 (0, 0)) := by
    rw [hgrow.block b hlt (fun e => hne e.symm)]
    exact hbk
  have HFA : Hid (FarB b w w2) := fun N cs t fr hh ht hn => by
    have hN := hf1 N cs t fr hh ht hn
    refine (hgrow.block N (Array.getElem?_eq_some_iff.1 hN).1 (fun e => ?_)).trans hN
    rcases hown.2 with ⟨hv, _⟩ | ⟨g, cap, cur, hv, _, hg, _⟩
    · rw [hv] at e; cases e
    · rw [hv] at e
      obtain rfl : N = g := Option.some.inj e
      rw [hN] at hg
      injection hg with hg
      injection hg with _ hg _
      exact ht hg
  have d0 : w2.cell? ⟨b, 0, none⟩ = some (.pointer (some ⟨b, 0, none⟩)) := by rw [Lib.cell_of_heap hb2]; rfl
  have d1 : w2.cell? ⟨b, 1, none⟩ = some v := by rw [Lib.cell_of_heap hb2]; rfl
  have f1 : w2.frozen? ⟨b, 1, none⟩ = false := Lib.frozen_of_heap hb2 1
  obtain ⟨ao, n', cap, rfl⟩ : ∃ ao n' cap, v' = .slice ao n' cap := by
    rcases hown'.2 with ⟨hv, _⟩ | ⟨g, cap, cur, hv, _⟩
    · exact ⟨_, _, _, hv⟩
    · exact ⟨_, _, _, hv⟩
  clear hf1
  go_wp2
  go_ret2
  refine ⟨rfl, Or.inr ?_, ?_, HFA.out.set _ _⟩
  · refine Lib.BuilderAt.put (T := 63) (e := 5) hBb hb2 ?_ (by decide)
    rw [Lib.byteCells_append, List.length_append, ← Lib.strCells_eq, hlc]
    simpa [Lib.strCells_length] using hown'
  · exact (hb1.grown hgrow (by omega) (fun k hk => (hown.lt k hk).1)).setCell (p := ⟨b, 1, none⟩) hBb _

/-- A line: three texts, blanks between, a line's end. -/
def lineB (x n r : ByteArray) : Sc.Bs := x.data.toList ++ ([32] ++ (n.data.toList ++ ([32] ++ (r.data.toList ++ [10]))))

theorem Len_any {B b : Nat} {l : Sc.Bs} {w : World} (h : Sc.Bld B b l w) : Calls Tryz.prog 114 #[.pointer (some ⟨b, 0, none⟩)] w fun e w' => e = .returned (.int .i64 l.length) ∧ w' = w := by
  obtain ⟨v, c1, hv⟩ : ∃ v, w.cell? ⟨b, 1, none⟩ = some v ∧ ∃ ad cap, v = .slice ad l.length cap := by
    rcases h with ⟨_, v, hbk, hown, _⟩ | ⟨_, v, hbk, hown, _⟩ <;>
    · refine ⟨v, by rw [Lib.cell_of_heap hbk]; rfl, ?_⟩
      rcases hown.2 with ⟨hv, hn⟩ | ⟨g, cap, cur, hv, _⟩
      · rw [Lib.byteCells_length] at hn
        exact ⟨none, 0, by rw [hv, hn]⟩
      · rw [Lib.byteCells_length] at hv
        exact ⟨_, _, hv⟩
  obtain ⟨ad, cap, rfl⟩ := hv
  go_enter Tryz.func114, Tryz.ntmps114
  go_wp2
  go_ret
  exact ⟨rfl, rfl⟩
end Go.Proofs.YtcclfaioicklaaaGreatDoor
namespace Go.Proofs.YtcclfaioicklaaaGreatDoor
open Go.RowKit
set_option maxRecDepth 100000

def plS (s : Sp) : Int × Int := (rankV s.a s.b s.c, rankV s.x s.y s.z)

theorem pl_sp {A : Rg} (hA : RangeR A) : (A.map spR).map plS = A := by
  rw [List.map_map]
  conv => rhs; rw [← List.map_id A]
  refine List.map_congr_left fun p hp => ?_
  obtain ⟨h1, h2, _⟩ := hA.ok p hp
  show (rankV (atA p.1) (atB p.1) (atC p.1), rankV (atA p.2) (atB p.2) (atC p.2)) = p
  have e1 := (may_at (n := p.1) (by unfold hasV; obtain ⟨a, b⟩ := h1; simp; omega)).2
  have e2 := (may_at (n := p.2) (by unfold hasV; obtain ⟨a, b⟩ := h2; simp; omega)).2
  rw [e1, e2]

/-- A range's text. -/
def prS (L : List Sp) : ByteArray := printR (L.map plS)

theorem sPrint_sp {L : List Sp} {u : Value} {w : World} (h : rangeB L = true) (hu : SpansC w u L) (he : Env w) (hf : FL w) :
    Calls Tryz.prog 143 #[u] w fun e w' => e = .returned (.string (prS L)) ∧ Below w.heap.size w w' := by
  unfold rangeB at h
  rw [Bool.and_eq_true] at h
  obtain ⟨A, rfl, hA, hl⟩ := may_iff.1 h.2
  unfold prS
  rw [pl_sp hA]
  exact sPrint_rg hA hl hu.rg he hf

theorem prS_size {L : List Sp} (h : rangeB L = true) : (prS L).size ≤ 4096 := by
  unfold rangeB at h
  rw [Bool.and_eq_true] at h
  obtain ⟨A, rfl, hA, hl⟩ := may_iff.1 h.2
  unfold prS
  rw [pl_sp hA]
  exact print_size hl

/-- The lines of a list. -/
def listT (x : ByteArray) (L : List Dp) : Sc.Bs := L.flatMap fun d => lineB x d.nm (prS d.rg)

theorem listT_snoc {x : ByteArray} {L : List Dp} {k : Nat} (h : k < L.length) : listT x (L.take (k + 1)) = listT x (L.take k) ++ lineB x L[k].nm (prS L[k].rg) := by
  unfold listT
  rw [List.take_succ_eq_append_getElem h, List.flatMap_append]
  simp

theorem rise_all : ∀ {L : List Dp} {q : Option ByteArray}, riseD q L = true → ∀ d ∈ L, d.nm.size ≤ 16 ∧ rangeB d.rg = true
  | [], _, _, d, hd => by cases hd
  | e :: M, q, hq, d, hd => by
    rw [riseD, Bool.and_eq_true, Bool.and_eq_true] at hq
    rcases List.mem_cons.1 hd with rfl | hd
    · have := hq.1.1
      unfold followB at this
      rw [Bool.and_eq_true] at this
      have := this.1
      unfold Sc.nameA at this
      rw [Bool.and_eq_true, decide_eq_true_eq, list_size] at this
      exact ⟨this.2, hq.1.2⟩
    · exact rise_all hq.2 d hd

theorem line_len {x n r : ByteArray} (hx : x.size ≤ 16) (hn : n.size ≤ 16) (hr : r.size ≤ 4096) : (lineB x n r).length ≤ 5000 := by
  unfold lineB
  simp only [List.length_append, list_size, List.length_cons, List.length_nil]
  omega

theorem list_len {x : ByteArray} (hx : x.size ≤ 16) {L : List Dp} (h : mayD L = true) (k : Nat) : (listT x (L.take k)).length ≤ 80000 := by
  unfold mayD at h
  rw [Bool.and_eq_true, decide_eq_true_eq] at h
  have : ∀ M : List Dp, (∀ d ∈ M, d.nm.size ≤ 16 ∧ rangeB d.rg = true) → (listT x M).length ≤ 5000 * M.length := by
    intro M
    induction M with
    | nil => intro _; simp [listT]
    | cons d M ih =>
      intro hM
      have h1 := ih fun e he => hM e (List.mem_cons_of_mem _ he)
      have h2 := line_len (x := x) hx (hM d List.mem_cons_self).1 (prS_size (hM d List.mem_cons_self).2)
      have : listT x (d :: M) = lineB x d.nm (prS d.rg) ++ listT x M := by unfold listT; simp
      rw [this, List.length_append, List.length_cons]
      omega
  have h2 := this (L.take k) fun d hd => rise_all h.2 d (List.mem_of_mem_take hd)
  have h3 : (L.take k).length ≤ 16 := by rw [List.length_take]; omega
  omega

/-- The text under way. -/
def TW (w1 : World) (l : Sc.Bs) (w' : World) : Prop := Sc.Bld w1.heap.size w1.heap.size l w' ∧ Below w1.heap.size w1 w'

theorem bld_below {B b : Nat} {l : Sc.Bs} {w w' : World} (h : Sc.Bld B b l w) (hb : Below w.heap.size w w') : Sc.Bld B b l w' := by
  have step : ∀ p, Lib.BuilderAt 63 5 B b p (Lib.byteCells l) w → Lib.BuilderAt 63 5 B b p (Lib.byteCells l) w' := by
    rintro p ⟨hB, v, hbk, hown, hne⟩
    refine ⟨hB, v, (hb.block b (Array.getElem?_eq_some_iff.1 hbk).1).trans hbk, ⟨hown.1, hown.2.imp id ?_⟩, hne⟩
    rintro ⟨g, cap, cur, rfl, h1, hg, h2⟩
    exact ⟨g, cap, cur, rfl, h1, (hb.block g (Array.getElem?_eq_some_iff.1 hg).1).trans hg, h2⟩
  exact h.imp (step _) (step _)

theorem keepTW (w1 : World) (l : Sc.Bs) : KeepP (TW w1 l) := fun _ _ h hb => ⟨bld_below h.1 hb, below_then h.2 hb⟩

theorem TW.new (w1 : World) : TW w1 [] (w1.alloc (.cells #[.pointer none, .slice none 0 0] 63)) := ⟨Lib.fresh_isBuilder _ _ w1, boxB _ _⟩

theorem TW.far {w1 : World} {l : Sc.Bs} {w' : World} (h : TW w1 l w') : w1.heap.size < w'.heap.size := by
  rcases h.1 with h | h <;> exact h.lt

theorem TW.put {w1 wz : World} {l : Sc.Bs} (h : TW w1 l wz) (s : ByteArray) (hl : l.length ≤ 1000000000) (hs : s.size ≤ 1000000) :
    Calls Tryz.prog 35 #[.pointer (some ⟨w1.heap.size, 0, none⟩), .string s] wz fun e w' => e = .returned (.tuple #[.int .i64 s.size, .nilIface]) ∧ TW w1 (l ++ s.data.toList) w' ∧ FarB w1.heap.size wz w' := by
  refine (putText_far s h.1 (by omega) h.2.size).mono ?_
  rintro e w' ⟨rfl, g1, g2, g3⟩
  exact ⟨rfl, ⟨g1, h.2.trans g2⟩, g3⟩
end Go.Proofs.YtcclfaioicklaaaGreatDoor
namespace Go.Proofs.YtcclfaioicklaaaGreatDoor
open Go.RowKit
set_option maxRecDepth 100000

/-- A short text put behind bytes of one's own, however many fit. -/
theorem run_app_text (w : World) (B : Nat) (t u ty e : TypeId) (i : TypeInfo) (ht : Tryz.prog.underlying t = some (.slice e)) (hu : Tryz.prog.underlying u = some .string) (hi : Tryz.prog.info? e = some i) (hz : i.zero = some (.int .u8 0)) (hsize : i.size = 1) (hby : i.bytes = 1)
    (v : Value) (n : Nat) (xs : List Value) (hown : w.ownsRow B e 1 v n xs) (s : ByteArray) (hs : s.size ≤ 1000) (hb : (n + s.size) + (n + s.size) / 4 + 192 ≤ 281474976710656) (hB : B ≤ w.heap.size) :
    ∃ v' w', (Builtin.append_ #[t, u] ty #[v, .string s]).run Tryz.prog w = .ok v' w' ∧ w'.ownsRow B e 1 v' (n + s.size) (xs ++ Lib.strCells s) ∧ w.grownBy w' v.ownBlock := by
  by_cases hsm : n + s.size ≤ 140737488355328
  · obtain ⟨v', w', h1, h2, h3, _⟩ := Lib.run_append_own_string (P := Tryz.prog) w B t u ty e i ht hu hi hz hsize hby v n xs hown s (by unfold maxLen; omega) hsm hB
    exact ⟨v', w', h1, h2, h3⟩
  · have hxl : xs.length = n := by simpa using hown.1
    have hlen : (xs ++ Lib.strCells s).length = (n + s.size) * 1 := by rw [List.length_append, hxl, Lib.strCells_length, Nat.mul_one]
    rcases hown.2 with ⟨_, rfl⟩ | ⟨g, cap, cur, rfl, hbg, hg, hnc, hcm, hcs, htk⟩
    · omega
    · rw [Nat.mul_one] at hcs htk
      by_cases hroom : n + s.size ≤ cap
      · have hr := Lib.run_append_room_string (P := Tryz.prog) w t u ty e i ht hu hi hsize g n cap cur hg s hroom (by omega)
        refine ⟨_, _, hr, ⟨hlen, Or.inr ⟨g, cap, _, rfl, hbg, setRow_heap w g cur _ e _ hg, hroom, hcm, ?_, ?_⟩⟩, ⟨rfl, rfl, rfl, by simp, fun k _ hk => setRow_other w g k _ (fun e => hk (by simp [Value.ownBlock, e]))⟩⟩
        · simp only [List.size_toArray, List.length_append, List.length_take, List.length_drop, Array.length_toList, Lib.strCells_length]
          omega
        · rw [htk, ← hlen]
          exact List.take_left
      · have hr := Lib.run_append_grow_string (P := Tryz.prog) w t u ty e i (.int .u8 0) ht hu hi hz ⟨g, 0, none⟩ n cap xs (by rw [hsize]; omega) (hown.cells (g := g) rfl) s (by omega) (by omega) (growslice_fits_wide (by omega) (by rw [hby]; omega))
        have hge := grownCap_ge w (n + s.size) cap e
        have hcm2 : grownCap w (n + s.size) cap e ≤ maxLen := grownCap_le_maxLen w (n + s.size) cap e (by unfold maxLen; omega)
        refine ⟨_, _, hr, ⟨hlen, Or.inr ⟨w.heap.size, _, _, rfl, hB, heap_alloc_new w.drew _, hge, hcm2, ?_, ?_⟩⟩, ⟨rfl, rfl, rfl, by simp, fun k hk _ => heap_alloc_old w.drew _ hk⟩⟩
        · have hz1 : (Value.int IntKind.u8 0).cells.size = 1 := rfl
          simp only [Array.size_append, List.size_toArray, size_zeroCells, hz1, hxl, Lib.strCells_length]
          omega
        · simp only [Array.toList_append, List.append_assoc]
          rw [← List.append_assoc, ← hlen]
          exact List.take_left

theorem wp_text {w : World} {ops : Array Oper} {rest : List Oper} {o : Oper} {a : Act} {Q : Exit → Act → World → Prop} (hgd : o.guard = none) (sl x : Operand) (t u : TypeId)
    (ho : o.op = .call { callee := .builtin .append, args := #[sl, x], argTypes := #[t, u] })
    (B : Nat) (e : TypeId) (i : TypeInfo) (ht : Tryz.prog.underlying t = some (.slice e)) (hu : Tryz.prog.underlying u = some .string) (hi : Tryz.prog.info? e = some i) (hz : i.zero = some (.int .u8 0)) (hsize : i.size = 1) (hby : i.bytes = 1)
    (v : Value) (n : Nat) (xs : List Value) (hs : a.eval sl = v) (hown : w.ownsRow B e 1 v n xs) (s : ByteArray) (hx : a.eval x = .string s) (hss : s.size ≤ 1000) (hb : (n + s.size) + (n + s.size) / 4 + 192 ≤ 281474976710656) (hB : B ≤ w.heap.size)
    (h : ∀ v' w', w'.ownsRow B e 1 v' (n + s.size) (xs ++ Lib.strCells s) → w.grownBy w' v.ownBlock → wpList Tryz.prog ops Q rest (a.put o.dst v') w') : wpList Tryz.prog ops Q (o :: rest) a w := by
  refine wpList_plain hgd fun K hK => ?_
  obtain ⟨v', w', hr, h2, h3⟩ := run_app_text w B t u o.type e i ht hu hi hz hsize hby v n xs hown s hss hb hB
  unfold Oper.wp execOp
  simp only [ho, resolve, invoke, builtin, Sem.run_bind, Sem.run_pure, Result.andThen_ok, List.map_toArray, List.map_cons, List.map_nil, hs, hx, hr]
  exact hK _ _ (h v' w' h2 h3)

set_option maxHeartbeats 1600000 in
theorem putText_w {B b : Nat} {l : Sc.Bs} {w : World} (s : ByteArray) (h : Sc.Bld B b l w) (hss : s.size ≤ 1000) (hl : (l.length + s.size) + (l.length + s.size) / 4 + 192 ≤ 281474976710656) (hB : B ≤ w.heap.size) :
    Calls Tryz.prog 35 #[.pointer (some ⟨b, 0, none⟩), .string s] w fun e w' => e = .returned (.tuple #[.int .i64 s.size, .nilIface]) ∧ Sc.Bld B b (l ++ s.data.toList) w' ∧ Below B w w' := by
  obtain ⟨i0, hi, hz0, hz1, hz2⟩ := Sc.info_parts Sc.bByte
  have HC := hide3 (check_far h)
  have hlc : (Lib.byteCells l).length = l.length := Lib.byteCells_length l
  go_enter Tryz.func35, Tryz.ntmps35
  go_wp2_with (go_at_call 66; refine HC.out.mono ?_)
  rintro e w1 ⟨rfl, h1, hb1, hf1⟩
  obtain ⟨hBb, v, hbk, hown, hne⟩ := h1
  have c0 : w1.cell? ⟨b, 0, none⟩ = some (.pointer (some ⟨b, 0, none⟩)) := by rw [Lib.cell_of_heap hbk]; rfl
  have c1 : w1.cell? ⟨b, 1, none⟩ = some v := by rw [Lib.cell_of_heap hbk]; rfl
  have hs1 := hb1.size
  go_wp2_with (at_builtin; refine wp_text rfl _ _ 61 9 rfl B 5 i0 Tryz.underlying61 Tryz.underlying9 hi hz0 hz1 hz2 _ _ _ rfl hown s rfl hss (by rw [hlc]; omega) (by omega) ?_)
  intro v' w2 hown' hgrow
  have hlt : b < w1.heap.size := (Array.getElem?_eq_some_iff.1 hbk).1
  have hb2 : w2.heap[b]? = some (.cells #[.pointer (some ⟨b, 0, none⟩), v] 63 (0, 0)) := by
    rw [hgrow.block b hlt (fun e => hne e.symm)]
    exact hbk
  have d0 : w2.cell? ⟨b, 0, none⟩ = some (.pointer (some ⟨b, 0, none⟩)) := by rw [Lib.cell_of_heap hb2]; rfl
  have d1 : w2.cell? ⟨b, 1, none⟩ = some v := by rw [Lib.cell_of_heap hb2]; rfl
  have f1 : w2.frozen? ⟨b, 1, none⟩ = false := Lib.frozen_of_heap hb2 1
  obtain ⟨ao, n', cap, rfl⟩ : ∃ ao n' cap, v' = .slice ao n' cap := by
    rcases hown'.2 with ⟨hv, _⟩ | ⟨g, cap, cur, hv, _⟩
    · exact ⟨_, _, _, hv⟩
    · exact ⟨_, _, _, hv⟩
  clear hf1
  go_wp2
  go_ret2
  refine ⟨rfl, Or.inr ?_, ?_⟩
  · refine Lib.BuilderAt.put (T := 63) (e := 5) hBb hb2 ?_ (by decide)
    rw [Lib.byteCells_append, List.length_append, ← Lib.strCells_eq, hlc]
    simpa [Lib.strCells_length] using hown'
  · exact (hb1.grown hgrow (by omega) (fun k hk => (hown.lt k hk).1)).setCell (p := ⟨b, 1, none⟩) hBb _

/-- What stands ahead of each name. -/
def modS : ByteArray := ⟨#[47, 109, 111, 100, 117, 108, 101, 115, 47]⟩
/-- A path's text, name by name. -/
def textN (L : List ByteArray) : Sc.Bs := L.flatMap fun s => modS.data.toList ++ s.data.toList
theorem textN_snoc (L : List ByteArray) (s : ByteArray) : textN (L ++ [s]) = textN L ++ modS.data.toList ++ s.data.toList := by simp [textN]
/-- Each name may be. -/
def namesB (L : List ByteArray) : Bool := L.all fun s => Sc.nameA s.data.toList
theorem name_size {s : ByteArray} (h : Sc.nameA s.data.toList = true) : s.size ≤ 16 := by unfold Sc.nameA at h; rw [Bool.and_eq_true, decide_eq_true_eq, list_size] at h; exact h.2
theorem textN_len : ∀ {L : List ByteArray}, namesB L = true → (textN L).length ≤ 25 * L.length
  | [], _ => by simp [textN]
  | s :: L, h => by
    unfold namesB at h
    rw [List.all_cons, Bool.and_eq_true] at h
    have ih := textN_len (L := L) h.2
    have hs := name_size h.1
    have e : (textN (s :: L)).length = 9 + s.size + (textN L).length := by
      unfold textN
      rw [List.flatMap_cons, List.length_append, List.length_append]
      rfl
    rw [e, List.length_cons]
    omega
/-- A path's text. -/
def textPa (L : List ByteArray) : ByteArray := if L = [] then ⟨#[47]⟩ else if namesB L = true then ⟨(textN L).toArray⟩ else ⟨#[]⟩

theorem names_take {L : List ByteArray} {k : Nat} (hk : k < L.length) : namesB (L.take (k + 1)) = (namesB (L.take k) && Sc.nameA L[k].data.toList) := by
  unfold namesB
  rw [List.take_succ_eq_append_getElem hk, List.all_append]
  simp
theorem names_bad {L : List ByteArray} {k : Nat} (hk : k < L.length) (h : Sc.nameA L[k].data.toList = false) : namesB L = false := by
  unfold namesB
  rw [List.all_eq_false]
  exact ⟨_, List.getElem_mem hk, by rw [h]; simp⟩

set_option maxHeartbeats 3200000 in
theorem tText_any {L : List ByteArray} {v : Value} {w : World} (h : PathAt w v L) (hz : L.length * 16 ≤ 140737488355328) :
    Calls Tryz.prog 12 #[v] w fun e w' => e = .returned (.string (textPa L)) ∧ Below w.heap.size w w' := by
  have HP : Hid (∀ w1, Below w.heap.size w w1 → PathAt w1 v L) := fun w1 hb => h.below hb
  obtain ⟨ad, cap, rfl⟩ := h.sl
  clear h
  by_cases h0 : L = []
  · subst h0
    have HR : Hid (textPa [] = ⟨#[47]⟩) := rfl
    rw [List.length_nil]
    go_enter Tryz.func12, Tryz.ntmps12
    go_wp2
    go_ret
    exact ⟨by rw [HR.out]; rfl, Below.refl _ _⟩
  · have hpos : 0 < L.length := List.length_pos_iff.2 h0
    have HNO : Hid (namesB L = false → textPa L = ⟨#[]⟩) := fun e => by unfold textPa; rw [if_neg h0, if_neg (by rw [e]; simp)]
    have HYE : Hid (namesB L = true → textPa L = ⟨(textN L).toArray⟩) := fun e => by unfold textPa; rw [if_neg h0, if_pos e]
    have HNA : Hid (∀ s w1, Calls Tryz.prog 34 #[.string s] w1 fun e w' => e = .returned (.bool (Sc.nameA s.data.toList)) ∧ w' = w1) := fun s w1 => Sc.Name_any s w1
    have HW : Hid (∀ l wz s, TW w l wz → s.size ≤ 1000 → l.length ≤ 219902325555300 → Calls Tryz.prog 35 #[.pointer (some ⟨w.heap.size, 0, none⟩), .string s] wz fun e w' => e = .returned (.tuple #[.int .i64 s.size, .nilIface]) ∧ TW w (l ++ s.data.toList) w') := fun l wz s h1 h2 h3 => by
      refine (putText_w s h1.1 h2 (by omega) h1.2.size).mono ?_
      rintro e w' ⟨rfl, g1, g2⟩
      exact ⟨rfl, g1, h1.2.trans g2⟩
    have HST : Hid (∀ l wz, TW w l wz → Calls Tryz.prog 36 #[.pointer (some ⟨w.heap.size, 0, none⟩)] wz fun e w2 => e = .returned (.string ⟨l.toArray⟩) ∧ Below w.heap.size wz w2) := fun l w' h => Tryz.Builder_String_any _ _ l w' h.1 h.2.size
    have HT0 : Hid (TW w [] (w.alloc (.cells #[.pointer none, .slice none 0 0] 63))) := TW.new w
    have HL : Hid (∀ k, k ≤ L.length → namesB (L.take k) = true → (textN (L.take k)).length ≤ 219902325555200) := fun k hk hn => by
      have := textN_len hn
      rw [List.length_take] at this
      omega
    have hne0 : ((L.length : Int) == 0) = false := by rw [beq_eq_false_iff_ne]; omega
    go_enter Tryz.func12, Tryz.ntmps12
    go_wp2_with fail
    go_loopw [11] (fun i wr => ∃ k : Nat, k ≤ L.length ∧ i = .int .i64 k ∧ TW w (textN (L.take k)) wr ∧ namesB (L.take k) = true) (fun i _ => L.length - (intOf i).toNat)
    case atStart => exact ⟨0, Nat.zero_le _, rfl, HT0.out, rfl⟩
    case round =>
      obtain ⟨k, hk, rfl, htw, hns⟩ := hrel
      have HTW := hide3 htw
      by_cases hlt : k < L.length
      · obtain ⟨ad', cap', e, _, hcs⟩ := HP.out wr htw.2
        cases e
        obtain ⟨g, o, rfl, hcz⟩ : ∃ g o, ad = some ⟨g, o, none⟩ ∧ ∀ i (h : i < L.length), StIn wr g (o + i) L[i] := by
          rcases hcs with h | h
          · exact absurd h h0
          · exact h
        clear hcs
        obtain ⟨c0, c1⟩ := hcz k hlt
        have HLK := hide3 (HL.out k hk hns)
        have HTS : Hid (textN (L.take (k + 1)) = textN (L.take k) ++ modS.data.toList ++ L[k].data.toList) := by
          unfold Hid
          rw [List.take_succ_eq_append_getElem hlt, textN_snoc]
        have HNT : Hid (Sc.nameA L[k].data.toList = true → namesB (L.take (k + 1)) = true) := fun e => by rw [names_take hlt, hns, e]; rfl
        have HNB : Hid (Sc.nameA L[k].data.toList = false → namesB L = false) := fun e => names_bad hlt e
        clear hcz htw hns
        have HNM := hide3 (HNA.out L[k])
        generalize L[k] = s at *
        cases hn : Sc.nameA s.data.toList
        · have HR := hide3 (HNO.out (HNB.out hn))
          rw [hn] at HNM
          clear HNT HNB HNO HYE
          go_wp2_with (go_at_call 34; refine (HNM.out _).mono ?_; rintro e w1 ⟨rfl, hw1⟩; subst w1)
          go_ret
          exact ⟨by rw [HR.out]; rfl, HTW.out.2⟩
        · have HR := hide3 (HNT.out hn)
          rw [hn] at HNM
          have hs16 : s.size ≤ 16 := name_size hn
          have hms : modS.size = 9 := rfl
          clear HNT HNB HNO HYE
          have t1 : True := trivial
          go_wp2_with (first
            | (go_at_call 34; refine (HNM.out _).mono ?_; rintro e w1 ⟨rfl, hw1⟩; subst w1)
            | (have _t := t1; go_at_call 35; refine (HW.out (textN (L.take k)) _ modS HTW.out (by omega) (by have := HLK.out; omega)).mono ?_; rintro e w2 ⟨rfl, ok⟩; have HT2 := hide3 ok; clear ok t1)
            | (have _t := HT2; go_at_call 35; refine (HW.out (textN (L.take k) ++ modS.data.toList) _ s HT2.out (by omega) (by have := HLK.out; rw [List.length_append, list_size]; omega)).mono ?_; rintro e w3 ⟨rfl, ok⟩; have HT3 := hide3 ok; clear ok))
          exact ⟨⟨k + 1, by omega, by go_num, by rw [HTS.out]; exact HT3.out, HR.out⟩, by simp [intOf]; omega⟩
      · obtain rfl : k = L.length := by omega
        have HTE : Hid (TW w (textN L) wr) := by have e := HTW.out; rw [List.take_length] at e; exact e
        have HR : Hid (textPa L = ⟨(textN L).toArray⟩) := HYE.out (by rw [List.take_length] at hns; exact hns)
        clear htw hns HTW
        go_wp2_with (go_at_call 36; refine (HST.out _ _ HTE.out).mono ?_; rintro e w6 ⟨rfl, ok⟩; have HB6 := hide3 (HTE.out.2.trans ok); clear ok)
        go_ret
        exact ⟨by rw [HR.out]; rfl, HB6.out⟩

/-- A directory other than the root may have a path. -/
def mayPaB (L : List ByteArray) : Bool := decide (0 < L.length) && namesB L && decide ((textN L).length ≤ 1024)
theorem tMayPath_any {L : List ByteArray} {v : Value} {w : World} (h : PathAt w v L) (hz : L.length * 16 ≤ 140737488355328) :
    Calls Tryz.prog 60 #[v] w fun e w' => e = .returned (.bool (mayPaB L)) ∧ Below w.heap.size w w' := by
  have HT := hide3 (tText_any h hz)
  obtain ⟨ad, cap, rfl⟩ := h.sl
  clear h
  cases L with
  | nil =>
    have HR : Hid (mayPaB [] = false) := rfl
    rw [List.length_nil] at HT ⊢
    go_enter Tryz.func60, Tryz.ntmps60
    go_wp2_with (go_at_call 12; refine HT.out.mono ?_; rintro e w1 ⟨rfl, ok⟩)
    go_ret
    exact ⟨ret_bool HR.out.symm, ok⟩
  | cons s L =>
    have hp : (0 : Int) < (((s :: L).length : Nat) : Int) := by rw [List.length_cons]; omega
    cases hn : namesB (s :: L)
    · have HR : Hid (mayPaB (s :: L) = false) := by unfold Hid mayPaB; rw [hn]; simp
      have e0 : textPa (s :: L) = ⟨#[]⟩ := by unfold textPa; rw [if_neg (by simp), if_neg (by rw [hn]; simp)]
      rw [e0] at HT
      generalize (s :: L).length = m at *
      go_enter Tryz.func60, Tryz.ntmps60
      go_wp2_with (go_at_call 12; refine HT.out.mono ?_; rintro e w1 ⟨rfl, ok⟩)
      go_ret
      exact ⟨ret_bool HR.out.symm, ok⟩
    · have HR : Hid (mayPaB (s :: L) = decide ((textN (s :: L)).length ≤ 1024)) := by unfold Hid mayPaB; rw [hn]; simp
      have e0 : textPa (s :: L) = ⟨(textN (s :: L)).toArray⟩ := by unfold textPa; rw [if_neg (by simp), if_pos hn]
      rw [e0] at HT
      have HSZ : Hid ((⟨(textN (s :: L)).toArray⟩ : ByteArray).size = (textN (s :: L)).length) := by show (textN (s :: L)).toArray.size = _; simp
      have HNE : Hid ((⟨(textN (s :: L)).toArray⟩ : ByteArray).toList.isEmpty = false) := by unfold Hid; rw [ByteArray.toList_eq]; simp [textN, modS]
      generalize (⟨(textN (s :: L)).toArray⟩ : ByteArray) = tx at *
      generalize (s :: L).length = m at *
      rw [← HSZ.out] at HR
      have hne := HNE.out
      by_cases hl : tx.size ≤ 1024
      · rw [decide_eq_true hl] at HR
        have hli : decide ((tx.size : Int) ≤ 1024) = true := decide_eq_true (by omega)
        go_enter Tryz.func60, Tryz.ntmps60
        go_wp2_with (go_at_call 12; refine HT.out.mono ?_; rintro e w1 ⟨rfl, ok⟩)
        go_ret
        exact ⟨ret_bool (by rw [HR.out]), ok⟩
      · rw [decide_eq_false hl] at HR
        have hli : decide ((tx.size : Int) ≤ 1024) = false := decide_eq_false (by omega)
        go_enter Tryz.func60, Tryz.ntmps60
        go_wp2_with (go_at_call 12; refine HT.out.mono ?_; rintro e w1 ⟨rfl, ok⟩)
        go_ret
        exact ⟨ret_bool (by rw [HR.out]), ok⟩
end Go.Proofs.YtcclfaioicklaaaGreatDoor
namespace Go.Proofs.YtcclfaioicklaaaGreatDoor
open Go.RowKit
set_option maxRecDepth 100000

theorem lists_any (s : ByteArray) (a b c : Int) (a1 a2 a3 : Option Addr) (l1 l2 l3 c1 c2 c3 : Nat) (w : World) :
    Calls Tryz.prog 112 #[.agg #[.string s, .int .i64 a, .int .i64 b, .int .i64 c, .slice a1 l1 c1, .slice a2 l2 c2, .slice a3 l3 c3]] w fun e w' => e = .returned (.agg #[.slice a1 l1 c1, .slice a2 l2 c2, .slice a3 l3 c3]) ∧ Below w.heap.size w w' := by
  go_enter Tryz.func112, Tryz.ntmps112
  go_wp2
  try simp only [Exit.inBlock, Exit.then]
  refine bodyPost_ret (by simp [results, Tryz.results112, go_sem]; try rfl) rfl ?_
  exact ⟨rfl, boxB2 _ _ _⟩

theorem index3_0 (x y z : Value) (w : World) : (Instr.index 143 (.agg #[x, y, z]) (.int .i64 0)).run Tryz.prog w = .ok x w := by kernel_rfl
theorem index3_1 (x y z : Value) (w : World) : (Instr.index 143 (.agg #[x, y, z]) (.int .i64 1)).run Tryz.prog w = .ok y w := by kernel_rfl
theorem index3_2 (x y z : Value) (w : World) : (Instr.index 143 (.agg #[x, y, z]) (.int .i64 2)).run Tryz.prog w = .ok z w := by kernel_rfl

/-- No name stands twice. -/
noncomputable def onceB (P : Pg) : Bool := onceL [P.d, P.p, P.o]
theorem lists3 {w : World} {P : Pg} {v1 v2 v3 : Value} (h : PgAt w P v1 v2 v3) : ListsAt (w.alloc (.cells #[v1, v2, v3] 42)) w.heap.size 0 [P.d, P.p, P.o] := by
  refine ⟨by simp, fun k hk => ?_⟩
  match k, hk with
  | 0, _ => exact ⟨v1, by simp, h.1.below (boxB _ _)⟩
  | 1, _ => exact ⟨v2, by simp, h.2.1.below (boxB _ _)⟩
  | 2, _ => exact ⟨v3, by simp, h.2.2.below (boxB _ _)⟩
theorem once3 {w : World} {P : Pg} {v1 v2 v3 : Value} (h : PgAt w P v1 v2 v3) (h1 : ShortL P.d) (h2 : ShortL P.p) (h3 : ShortL P.o) : Calls Tryz.prog 141 #[.slice (some ⟨w.heap.size, 0, none⟩) 3 3] (w.alloc (.cells #[v1, v2, v3] 42)) fun e w' => e = .returned (.bool (onceB P)) ∧ Below (w.alloc (.cells #[v1, v2, v3] 42)).heap.size (w.alloc (.cells #[v1, v2, v3] 42)) w' :=
  Once_any (Ls := [P.d, P.p, P.o]) (lists3 h) (fun L hL => by
    simp only [List.mem_cons, List.not_mem_nil, or_false] at hL
    rcases hL with rfl | rfl | rfl <;> assumption) (by simp)

/-- A package may be, but for the length of its text. -/
noncomputable def soundB (P : Pg) : Bool := Sc.nameA P.nm.data.toList && mayV P.a P.b P.c && (mayD P.d && (mayD P.p && mayD P.o)) && onceB P

set_option maxHeartbeats 3200000 in
theorem sound_any {P : Pg} {v1 v2 v3 : Value} {w : World} (h : PgAt w P v1 v2 v3) :
    Calls Tryz.prog 109 #[.agg #[.string P.nm, .int .i64 P.a, .int .i64 P.b, .int .i64 P.c, v1, v2, v3]] w fun e w' => e = .returned (.bool (soundB P)) ∧ Below w.heap.size w w' := by
  have HN : Hid (∀ w1, Calls Tryz.prog 34 #[.string P.nm] w1 fun e w' => e = .returned (.bool (Sc.nameA P.nm.data.toList)) ∧ w' = w1) := Sc.Name_any P.nm
  have HV : Hid (∀ w1, Calls Tryz.prog 139 #[.agg #[.int .i64 P.a, .int .i64 P.b, .int .i64 P.c]] w1 fun e w' => e = .returned (.bool (mayV P.a P.b P.c)) ∧ Below w1.heap.size w1 w') := May_any _ _ _
  have HM1 : Hid (∀ w1, Below w.heap.size w w1 → Calls Tryz.prog 140 #[v1] w1 fun e w' => e = .returned (.bool (mayD P.d)) ∧ Below w1.heap.size w1 w') := fun w1 hb => mayList_any (h.1.below hb)
  have HM2 : Hid (∀ w1, Below w.heap.size w w1 → Calls Tryz.prog 140 #[v2] w1 fun e w' => e = .returned (.bool (mayD P.p)) ∧ Below w1.heap.size w1 w') := fun w1 hb => mayList_any (h.2.1.below hb)
  have HM3 : Hid (∀ w1, Below w.heap.size w w1 → Calls Tryz.prog 140 #[v3] w1 fun e w' => e = .returned (.bool (mayD P.o)) ∧ Below w1.heap.size w1 w') := fun w1 hb => mayList_any (h.2.2.below hb)
  have HEO : Hid (mayD P.d = true → mayD P.p = true → mayD P.o = true → ∀ w1, Below w.heap.size w w1 → Calls Tryz.prog 141 #[.slice (some ⟨w1.heap.size, 0, none⟩) 3 3] (w1.alloc (.cells #[v1, v2, v3] 42)) fun e w' => e = .returned (.bool (onceB P)) ∧ Below (w1.alloc (.cells #[v1, v2, v3] 42)).heap.size (w1.alloc (.cells #[v1, v2, v3] 42)) w') := fun h1 h2 h3 w1 hb => once3 (h.below hb) (short_may h1) (short_may h2) (short_may h3)
  have HSB : Hid (soundB P = (Sc.nameA P.nm.data.toList && mayV P.a P.b P.c && (mayD P.d && (mayD P.p && mayD P.o)) && onceB P)) := rfl
  obtain ⟨a1, c1, rfl⟩ := h.1.sl
  obtain ⟨a2, c2, rfl⟩ := h.2.1.sl
  obtain ⟨a3, c3, rfl⟩ := h.2.2.sl
  have HLI : Hid (∀ w1, Calls Tryz.prog 112 #[.agg #[.string P.nm, .int .i64 P.a, .int .i64 P.b, .int .i64 P.c, .slice a1 P.d.length c1, .slice a2 P.p.length c2, .slice a3 P.o.length c3]] w1 fun e w' => e = .returned (.agg #[.slice a1 P.d.length c1, .slice a2 P.p.length c2, .slice a3 P.o.length c3]) ∧ Below w1.heap.size w1 w') := lists_any _ _ _ _ _ _ _ _ _ _ _ _ _
  clear h
  generalize soundB P = SB at *
  generalize onceB P = ob at *
  generalize mayD P.d = m1 at *
  generalize mayD P.p = m2 at *
  generalize mayD P.o = m3 at *
  generalize Sc.nameA P.nm.data.toList = nb at *
  generalize mayV P.a P.b P.c = vb at *
  generalize P.d.length = l1 at *
  generalize P.p.length = l2 at *
  generalize P.o.length = l3 at *
  generalize P.nm = s at *
  generalize P.a = a at *
  generalize P.b = b at *
  generalize P.c = c at *
  have HBX : Hid (BxP (w.alloc (.cells #[.string s, .int .i64 a, .int .i64 b, .int .i64 c, .slice a1 l1 c1, .slice a2 l2 c2, .slice a3 l3 c3] 44)) w.heap.size s a b c (.slice a1 l1 c1) (.slice a2 l2 c2) (.slice a3 l3 c3)) := BxP.new rfl _ _ _ _ _ _ _
  have HKB : Hid (KeepP fun w1 => BxP w1 w.heap.size s a b c (.slice a1 l1 c1) (.slice a2 l2 c2) (.slice a3 l3 c3)) := keepBxP _ _ _ _ _ _ _ _
  have ix0 := index3_0
  have ix1 := index3_1
  have ix2 := index3_2
  cases nb
  · have HR : Hid (SB = false) := by unfold Hid; rw [HSB.out]; rfl
    go_enter Tryz.func109, Tryz.ntmps109
    go_wp2_with (go_at_call 34; refine (HN.out _).mono ?_; rintro e w1 ⟨rfl, rfl⟩)
    go_ret
    exact ⟨ret_bool HR.out.symm, boxB _ _⟩
  · cases vb
    · have HR : Hid (SB = false) := by unfold Hid; rw [HSB.out]; rfl
      go_enter Tryz.func109, Tryz.ntmps109
      go_wp2_with (first
        | (go_at_call 34; refine (HN.out _).mono ?_; rintro e w1 ⟨rfl, rfl⟩)
        | (go_at_call 139; refine (HV.out _).mono ?_; rintro e w2 ⟨rfl, ok⟩; have HO2 := hide3 (below_then (boxB _ _) ok); clear ok))
      go_ret
      exact ⟨ret_bool HR.out.symm, HO2.out⟩
    · go_enter Tryz.func109, Tryz.ntmps109
      go_wp2_with (first
        | (go_at_call 34; refine (HN.out _).mono ?_; rintro e w1 ⟨rfl, rfl⟩)
        | (go_at_call 139; refine (HV.out _).mono ?_; rintro e w2 ⟨rfl, ok⟩; have HO2 := hide3 (below_then (boxB _ _) ok); have HB2 := hide3 (HKB.out _ _ HBX.out ok); obtain ⟨k0, k1, k2, k3, k4, k5, k6, k7⟩ := HB2.out; clear ok)
        | (go_at_call 112; refine (HLI.out _).mono ?_; rintro e w3 ⟨rfl, ok⟩; have HO3 : Hid (Below w.heap.size w w3 ∧ BxP w3 w.heap.size s a b c (.slice a1 l1 c1) (.slice a2 l2 c2) (.slice a3 l3 c3)) := ⟨below_then HO2.out ok, HKB.out _ _ HB2.out ok⟩; clear ok))
      clear k0 k1 k2 k3 k4 k5 k6 k7
      go_loopw [17] (fun i wr => ∃ k : Nat, k ≤ 3 ∧ i = .int .i64 k ∧ (Below w.heap.size w wr ∧ BxP wr w.heap.size s a b c (.slice a1 l1 c1) (.slice a2 l2 c2) (.slice a3 l3 c3)) ∧ (1 ≤ k → m1 = true) ∧ (2 ≤ k → m2 = true) ∧ (3 ≤ k → m3 = true)) (fun i _ => 3 - (intOf i).toNat)
      case atStart => exact ⟨0, Nat.zero_le _, rfl, HO3.out, (fun h => by omega), (fun h => by omega), (fun h => by omega)⟩
      case round =>
        obtain ⟨k, hk, rfl, hb, e1, e2, e3⟩ := hrel
        have HB := hide3 hb
        rcases (show k = 0 ∨ k = 1 ∨ k = 2 ∨ k = 3 by omega) with rfl | rfl | rfl | rfl
        · clear hb e1 e2 e3
          cases m1
          · have HR : Hid (SB = false) := by unfold Hid; rw [HSB.out]; simp
            go_wp2_with (go_at_call 140; refine (HM1.out _ HB.out.1).mono ?_; rintro e w4 ⟨rfl, ok⟩; have HO4 := hide3 (below_then HB.out.1 ok); clear ok)
            go_ret
            exact ⟨ret_bool HR.out.symm, HO4.out⟩
          · go_wp2_with (go_at_call 140; refine (HM1.out _ HB.out.1).mono ?_; rintro e w4 ⟨rfl, ok⟩; have HO4 : Hid (Below w.heap.size w w4 ∧ BxP w4 w.heap.size s a b c (.slice a1 l1 c1) (.slice a2 l2 c2) (.slice a3 l3 c3)) := ⟨below_then HB.out.1 ok, HKB.out _ _ HB.out.2 ok⟩; clear ok)
            exact ⟨⟨1, by omega, rfl, HO4.out, (fun _ => trivial), (fun h => by omega), (fun h => by omega)⟩, by simp [intOf]⟩
        · have e1' := e1 (by omega)
          subst e1'
          clear hb e1 e2 e3
          cases m2
          · have HR : Hid (SB = false) := by unfold Hid; rw [HSB.out]; simp
            go_wp2_with (go_at_call 140; refine (HM2.out _ HB.out.1).mono ?_; rintro e w4 ⟨rfl, ok⟩; have HO4 := hide3 (below_then HB.out.1 ok); clear ok)
            go_ret
            exact ⟨ret_bool HR.out.symm, HO4.out⟩
          · go_wp2_with (go_at_call 140; refine (HM2.out _ HB.out.1).mono ?_; rintro e w4 ⟨rfl, ok⟩; have HO4 : Hid (Below w.heap.size w w4 ∧ BxP w4 w.heap.size s a b c (.slice a1 l1 c1) (.slice a2 l2 c2) (.slice a3 l3 c3)) := ⟨below_then HB.out.1 ok, HKB.out _ _ HB.out.2 ok⟩; clear ok)
            exact ⟨⟨2, by omega, rfl, HO4.out, (fun _ => trivial), (fun _ => trivial), (fun h => by omega)⟩, by simp [intOf]⟩
        · have e1' := e1 (by omega)
          have e2' := e2 (by omega)
          subst e1' e2'
          clear hb e1 e2 e3
          cases m3
          · have HR : Hid (SB = false) := by unfold Hid; rw [HSB.out]; simp
            go_wp2_with (go_at_call 140; refine (HM3.out _ HB.out.1).mono ?_; rintro e w4 ⟨rfl, ok⟩; have HO4 := hide3 (below_then HB.out.1 ok); clear ok)
            go_ret
            exact ⟨ret_bool HR.out.symm, HO4.out⟩
          · go_wp2_with (go_at_call 140; refine (HM3.out _ HB.out.1).mono ?_; rintro e w4 ⟨rfl, ok⟩; have HO4 : Hid (Below w.heap.size w w4 ∧ BxP w4 w.heap.size s a b c (.slice a1 l1 c1) (.slice a2 l2 c2) (.slice a3 l3 c3)) := ⟨below_then HB.out.1 ok, HKB.out _ _ HB.out.2 ok⟩; clear ok)
            exact ⟨⟨3, by omega, rfl, HO4.out, (fun _ => trivial), (fun _ => trivial), (fun _ => trivial)⟩, by simp [intOf]⟩
        · have e1' := e1 (by omega)
          have e2' := e2 (by omega)
          have e3' := e3 (by omega)
          subst e1' e2' e3'
          have HR : Hid (SB = ob) := by unfold Hid; rw [HSB.out]; simp
          have HEW := hide3 (HEO.out rfl rfl rfl)
          obtain ⟨k0, k1, k2, k3, k4, k5, k6, k7⟩ := HB.out.2
          clear hb e1 e2 e3
          go_wp2_with (go_at_call 141; refine (HEW.out _ HB.out.1).mono ?_; rintro e w4 ⟨rfl, ok⟩; have HO4 := hide3 (below_then (below_then HB.out.1 (boxB _ _)) ok); clear ok)
          go_ret
          exact ⟨ret_bool HR.out.symm, HO4.out⟩
end Go.Proofs.YtcclfaioicklaaaGreatDoor
namespace Go.Proofs.YtcclfaioicklaaaGreatDoor
open Go.RowKit
set_option maxRecDepth 100000

set_option maxHeartbeats 6400000 in
theorem Write_any {w1 wz : World} {l : Sc.Bs} {v : Value} {L : List Dp} {x : ByteArray} (h : TW w1 l wz) (hd : DepsAt w1 v L) (hm : mayD L = true) (he : Env w1) (hf : FL w1) (hx : x.size ≤ 16) (hl : l.length ≤ 1000000) :
    Calls Tryz.prog 113 #[.pointer (some ⟨w1.heap.size, 0, none⟩), .string x, v] wz fun e w' => e = .returned (.tuple #[]) ∧ TW w1 (l ++ listT x L) w' ∧ FarB w1.heap.size wz w' := by
  have HD : Hid (∀ w', Below w1.heap.size w1 w' → DepsAt w' v L) := fun w' hb => hd.below hb
  have HSP : Hid (∀ w2 u (R : List Sp), Below w1.heap.size w1 w2 → rangeB R = true → SpansC w2 u R → Calls Tryz.prog 143 #[u] w2 fun e w' => e = .returned (.string (prS R)) ∧ Below w2.heap.size w2 w') := fun w2 u R hb hr hu => sPrint_sp hr hu (he.below hb) (hf.below hb)
  have HAll : Hid (∀ d ∈ L, d.nm.size ≤ 16 ∧ rangeB d.rg = true) := by
    have := hm
    unfold mayD at this
    rw [Bool.and_eq_true] at this
    exact rise_all this.2
  have HLN := hide3 (list_len hx hm)
  have h16 := (short_may hm).1
  have HPU : Hid (∀ (l1 : Sc.Bs) w2 (s : ByteArray) (N : Nat) (bx : Obj), (TW w1 l1 w2 ∧ FarB w1.heap.size wz w2) ∧ (w2.heap[N]? = some bx ∧ (∃ cs, bx = .cells cs 113 (0, 0)) ∧ w1.heap.size < N) → l1.length ≤ 2000000 → s.size ≤ 1000000 → Calls Tryz.prog 35 #[.pointer (some ⟨w1.heap.size, 0, none⟩), .string s] w2 fun e w' => e = .returned (.tuple #[.int .i64 s.size, .nilIface]) ∧ (TW w1 (l1 ++ s.data.toList) w' ∧ FarB w1.heap.size wz w') ∧ (w'.heap[N]? = some bx ∧ (∃ cs, bx = .cells cs 113 (0, 0)) ∧ w1.heap.size < N)) := fun l1 w2 s N bx h1 h2 h3 => by
    refine (h1.1.1.put s (by omega) h3).mono ?_
    rintro e w' ⟨rfl, g1, g2⟩
    obtain ⟨cs, rfl⟩ := h1.2.2.1
    exact ⟨rfl, ⟨g1, h1.1.2.trans g2⟩, g2 _ _ _ _ h1.2.1 (by decide) (by have := h1.2.2.2; omega), ⟨cs, rfl⟩, h1.2.2.2⟩
  have HT0 : Hid (TW w1 l wz ∧ FarB w1.heap.size wz wz) := ⟨h, FarB.refl _ _⟩
  obtain ⟨ad, cap, rfl, hcp⟩ := hd.len
  clear hd hm he hf h
  go_enter Tryz.func113, Tryz.ntmps113
  go_wp2_with fail
  go_loopw [10] (fun j wq => ∃ m : Nat, m ≤ L.length ∧ j = .int .i64 m ∧ TW w1 (l ++ listT x (L.take m)) wq ∧ FarB w1.heap.size wz wq) (fun j _ => L.length - (intOf j).toNat)
  case atStart => exact ⟨0, Nat.zero_le _, rfl, by have := HT0.out; simpa [listT] using this⟩
  case round =>
    clear HT0
    obtain ⟨m, hm, rfl, htq⟩ := hrel
    have HTQ := hide3 htq
    by_cases hlt : m < L.length
    · obtain ⟨ad', cap', e, _, hcs⟩ := HD.out wr htq.1.2
      cases e
      obtain ⟨g, o, rfl, hg, hcs⟩ : ∃ g o, ad = some ⟨g, o, none⟩ ∧ g < wr.heap.size ∧ ∀ i (h : i < L.length), ∃ u, DpIn wr g (o + i * 2) L[i] u := by
        rcases hcs with h | h
        · rw [h] at hlt; simp at hlt
        · exact h
      obtain ⟨u, p0, p1, ⟨hu, _⟩, p3⟩ := hcs m hlt
      obtain ⟨au, cu, rfl⟩ := hu.1.sl
      obtain ⟨hnz2, hrb⟩ := HAll.out _ (List.getElem_mem hlt)
      have hpz := prS_size hrb
      have HSN := hide3 (listT_snoc (x := x) hlt)
      have hpl : (l ++ listT x (L.take m)).length ≤ 1100000 := by
        have h1 := HLN.out m
        rw [List.length_append]
        omega
      have HUS : Hid (SpansC (wr.alloc (.cells #[.string L[m].nm, .slice au L[m].rg.length cu] 113)) (.slice au L[m].rg.length cu) L[m].rg) := ⟨hu.1.below (boxB _ _), hu.2⟩
      have HUB : Hid (g < wr.heap.size) := hg
      have HSPd := hide3 (fun w' (hb : Below w1.heap.size w1 w') (hc : SpansC w' (.slice au L[m].rg.length cu) L[m].rg) => HSP.out w' _ _ hb hrb hc)
      have HO0 : Hid ((TW w1 (l ++ listT x (L.take m)) (wr.alloc (.cells #[.string L[m].nm, .slice au L[m].rg.length cu] 113)) ∧ FarB w1.heap.size wz (wr.alloc (.cells #[.string L[m].nm, .slice au L[m].rg.length cu] 113))) ∧ ((wr.alloc (.cells #[.string L[m].nm, .slice au L[m].rg.length cu] 113)).heap[wr.heap.size]? = some (.cells #[.string L[m].nm, .slice au L[m].rg.length cu] 113 (0, 0)) ∧ (∃ cs, (Obj.cells #[.string L[m].nm, .slice au L[m].rg.length cu] 113 (0, 0)) = .cells cs 113 (0, 0)) ∧ w1.heap.size < wr.heap.size)) := by
        refine ⟨⟨keepTW _ _ _ _ htq.1 (boxB _ _), htq.2.trans (FarB.below (boxB _ _))⟩, ?_, ⟨_, rfl⟩, htq.1.far⟩
        show (wr.heap.push _)[wr.heap.size]? = _
        rw [Array.getElem?_push, if_pos rfl]
      have HUK : Hid (KeepP fun w' => SpansC w' (.slice au L[m].rg.length cu) L[m].rg) := fun _ _ h hb => ⟨h.1.below hb, h.2⟩
      have HUW : Hid (∀ w', Below w1.heap.size w1 w' → SpansC w' (.slice au L[m].rg.length cu) L[m].rg) := fun w' hb => by
        obtain ⟨ad2, cap2, e2, _, hcs2⟩ := HD.out w' hb
        cases e2
        rcases hcs2 with h2 | ⟨g2, o2, e3, hg2, hcs2⟩
        · rw [h2] at hlt; simp at hlt
        · cases e3
          obtain ⟨u2, q0, q1, ⟨hu2, _⟩, q3⟩ := hcs2 m hlt
          obtain ⟨ad3, cap3, e4, _, hcs3⟩ := HD.out w1 (Below.refl _ _)
          cases e4
          rcases hcs3 with h4 | ⟨g4, o4, e5, hg4, hcs4⟩
          · rw [h4] at hlt; simp at hlt
          · cases e5
            obtain ⟨u5, r0, r1, _, _⟩ := hcs4 m hlt
            have t1 := (hb.cell (p := ⟨g, o + m * 2 + 1, none⟩) hg4).trans r1
            have t2 := (HTQ.out.1.2.cell (p := ⟨g, o + m * 2 + 1, none⟩) hg4).trans r1
            rw [q1] at t1
            rw [p1] at t2
            cases t1
            cases t2
            exact hu2
      clear hcs hu htq
      generalize prS L[m].rg = rt at *
      generalize L[m].rg.length = lu at *
      generalize L[m].nm = s at *
      generalize hlm : l ++ listT x (L.take m) = lm at *
      have HLM := hide3 hlm
      clear hlm
      have l1 : (lm ++ x.data.toList).length ≤ 1100016 := by rw [List.length_append, list_size]; omega
      have l2 : (lm ++ x.data.toList ++ [32]).length ≤ 1100017 := by rw [List.length_append]; simp at l1 ⊢; omega
      have l3 : (lm ++ x.data.toList ++ [32] ++ s.data.toList).length ≤ 1100033 := by rw [List.length_append, list_size]; omega
      have l4 : (lm ++ x.data.toList ++ [32] ++ s.data.toList ++ [32]).length ≤ 1100034 := by rw [List.length_append]; simp at l3 ⊢; omega
      have l5 : (lm ++ x.data.toList ++ [32] ++ s.data.toList ++ [32] ++ rt.data.toList).length ≤ 1200000 := by rw [List.length_append, list_size]; omega
      go_wp2_with (first
        | (have _h := HO0; go_at_call 35; refine (HPU.out _ _ x _ _ HO0.out (by omega) (by omega)).mono ?_; rintro e w2 ⟨rfl, ok⟩; have HO1 := hide3 ok; clear ok HO0)
        | (have _h := HO1; go_at_call 35; refine (HPU.out _ _ ⟨#[32]⟩ _ _ HO1.out (Nat.le_trans l1 (by decide)) (by decide)).mono ?_; rintro e w3 ⟨rfl, ok⟩; have HO2 := hide3 ok; clear ok HO1; have d0 : w3.cell? ⟨wr.heap.size, 0, none⟩ = some (.string s) := (by rw [Lib.cell_of_heap HO2.out.2.1]; rfl))
        | (have _h := HO2; go_at_call 35; refine (HPU.out _ _ s _ _ HO2.out (Nat.le_trans l2 (by decide)) (by omega)).mono ?_; rintro e w4 ⟨rfl, ok⟩; have HO3 := hide3 ok; clear ok HO2 d0)
        | (have _h := HO3; go_at_call 35; refine (HPU.out _ _ ⟨#[32]⟩ _ _ HO3.out (Nat.le_trans l3 (by decide)) (by decide)).mono ?_; rintro e w5 ⟨rfl, ok⟩; have HO4 := hide3 ok; clear ok HO3; have d1 : w5.cell? ⟨wr.heap.size, 1, none⟩ = some (.slice au lu cu) := (by rw [Lib.cell_of_heap HO4.out.2.1]; rfl))
        | (have _h := HO4; go_at_call 143; refine (HSPd.out _ HO4.out.1.1.2 (HUW.out _ HO4.out.1.1.2)).mono ?_; rintro e w6 ⟨rfl, ok⟩; have HO5 : Hid ((TW w1 (lm ++ x.data.toList ++ [32] ++ s.data.toList ++ [32]) w6 ∧ FarB w1.heap.size wz w6) ∧ (w6.heap[wr.heap.size]? = some (.cells #[.string s, .slice au lu cu] 113 (0, 0)) ∧ (∃ cs, (Obj.cells #[.string s, .slice au lu cu] 113 (0, 0)) = .cells cs 113 (0, 0)) ∧ w1.heap.size < wr.heap.size)) := ⟨⟨keepTW _ _ _ _ HO4.out.1.1 ok, HO4.out.1.2.trans (FarB.below ok)⟩, (ok.block wr.heap.size (Array.getElem?_eq_some_iff.1 HO4.out.2.1).1).trans HO4.out.2.1, HO4.out.2.2⟩; clear ok HO4 d1)
        | (have _h := HO5; go_at_call 35; refine (HPU.out _ _ rt _ _ HO5.out (Nat.le_trans l4 (by decide)) (by omega)).mono ?_; rintro e w7 ⟨rfl, ok⟩; have HO6 := hide3 ok; clear ok HO5)
        | (have _h := HO6; go_at_call 35; refine (HPU.out _ _ ⟨#[10]⟩ _ _ HO6.out (Nat.le_trans l5 (by decide)) (by decide)).mono ?_; rintro e w8 ⟨rfl, ok⟩; have HO7 := hide3 ok; clear ok HO6))
      refine ⟨⟨m + 1, by omega, by go_num, ?_, HO7.out.1.2⟩, by simp [intOf]; omega⟩
      have e : l ++ listT x (L.take (m + 1)) = lm ++ x.data.toList ++ [32] ++ s.data.toList ++ [32] ++ rt.data.toList ++ [10] := by rw [HSN.out, ← HLM.out]; unfold lineB; simp
      rw [e]
      exact HO7.out.1.1
    · have HTN : Hid (TW w1 (l ++ listT x L) wr ∧ FarB w1.heap.size wz wr) := by
        have := HTQ.out
        rw [List.take_of_length_le (by omega)] at this
        exact this
      clear htq
      go_wp2
      go_end0
      exact ⟨rfl, HTN.out.1, HTN.out.2⟩
end Go.Proofs.YtcclfaioicklaaaGreatDoor
