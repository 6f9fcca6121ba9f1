/- The walk of the document's Parse: of a text of at most 1048576 bytes it answers as the plain function does. -/
import Derived.Test.YtkmgfemhfibikaaGreatDoorFold1
import Derived.Test.YtkmgfemhfibikaaGreatDoorBoxes2
import Derived.Deep.AppendLies
import Derived.Laws.OwnMore
import Derived.Laws.AppendOwn
import Derived.OwnWalk
namespace Go.Proofs.YtkmgfemhfibikaaGreatDoor
open Go.RowKit
set_option maxRecDepth 100000


def intCells (l : List Int) : List Value := l.map (Value.int .i64)
theorem hideV {p : Prop} (h : p) : Hid p := h
theorem infoIntV : (Tryz.prog.info? 3).map (fun i => (i.zero, i.size, i.bytes)) = some (some (.int .i64 0), 1, 8) := by kernel_rfl
theorem info_partsV {e : TypeId} {z : Value} {n b : Nat} (h : (Tryz.prog.info? e).map (fun i => (i.zero, i.size, i.bytes)) = some (some z, n, b)) : ∃ i, Tryz.prog.info? e = some i ∧ i.zero = some z ∧ i.size = n ∧ i.bytes = b := by
  cases hi : Tryz.prog.info? e with
  | none => rw [hi] at h; cases h
  | some i =>
    rw [hi] at h
    simp only [Option.map_some, Option.some.injEq, Prod.mk.injEq] at h
    exact ⟨i, rfl, h.1, h.2.1, h.2.2⟩

/-- The result's place stays, whatever a row of the call's own becomes. -/
theorem OKr.grown {w : World} {N : Nat} {x y z : Value} {w1 w' : World} {row : Option Nat} (h : OKr w N [⟨N, x, y, z⟩] w1) (hw : w.heap.size ≤ N) (hg : w1.grownBy w' row) (hr : ∀ k, row = some k → N < k) : OKr w N [⟨N, x, y, z⟩] w' := by
  obtain ⟨⟨hb, hq⟩, f0, f1, f2, f3⟩ := h
  have hN : w'.heap[N]? = w1.heap[N]? := hg.block N f3 (fun e => Nat.lt_irrefl _ (hr N e.symm))
  have hc : ∀ o, w'.cell? ⟨N, o, none⟩ = w1.cell? ⟨N, o, none⟩ := fun o => World.cell?_of_block (w := w1) hN
  have hf : ∀ o, w'.frozen? ⟨N, o, none⟩ = w1.frozen? ⟨N, o, none⟩ := fun o => World.frozen?_of_block (w := w1) hN
  have hl : N < w'.heap.size := Nat.lt_of_lt_of_le f3 hg.size
  refine ⟨⟨hb.grown hg hb.size (fun k hk => Nat.le_trans hw (Nat.le_of_lt (hr k hk))), fun q hq' => ?_⟩, (hf 0).trans f0, (hf 1).trans f1, (hf 2).trans f2, hl⟩
  obtain rfl : q = ⟨N, x, y, z⟩ := by simpa using hq'
  obtain ⟨c0, c1, c2, _⟩ := hq _ hq'
  exact ⟨(hc 0).trans c0, (hc 1).trans c1, (hc 2).trans c2, hl⟩

theorem OKr.alloc {w : World} {N : Nat} {bs : List Bx} {w1 : World} (h : OKr w N bs w1) (o : Obj) : OKr w N bs (w1.alloc o) := h.below (boxB _ _)

theorem int_news (w : World) (t : TypeId) : ∀ j u, [Value.int .i64 0][j]? = some u → (w.alloc (.cells #[.int .i64 0] t)).cell? ((⟨w.heap.size, 0, none⟩ : Addr).add j) = some u :=
  World.news_of_block (cs := #[.int .i64 0]) (t := t) (fr := (0, 0)) (by
    show (w.heap.push _)[w.heap.size]? = _
    rw [Array.getElem?_push, if_pos rfl])

theorem cells_get (pre : List Int) (cur : Int) (j : Nat) (h : j < pre.length) : (intCells (pre ++ [cur]))[j]? = some (.int .i64 pre[j]) := by
  unfold intCells
  rw [List.getElem?_map, List.getElem?_append_left h, List.getElem?_eq_getElem h]; rfl
theorem cells_last (pre : List Int) (cur : Int) : (intCells (pre ++ [cur]))[pre.length]? = some (.int .i64 cur) := by
  unfold intCells; simp
theorem cells_set (pre : List Int) (cur v : Int) : (intCells (pre ++ [cur])).set pre.length (.int .i64 v) = intCells (pre ++ [v]) := by
  unfold intCells; simp

set_option maxHeartbeats 8000000 in
theorem rParse_walk (s : ByteArray) (hs : s.size ≤ 1048576) (w : World) :
    Calls Tryz.prog 46 #[.string s] w fun e w' => e = .returned (.tuple #[.agg #[.int .i64 (resA s), .int .i64 (resB s), .int .i64 (resC s)], .bool (okP s)]) ∧ Below w.heap.size w w' := by
  obtain ⟨i0, hi, hz0, hz1, hz2⟩ := info_partsV infoIntV
  have HO : Hid (OKr w w.heap.size [⟨w.heap.size, .int .i64 0, .int .i64 0, .int .i64 0⟩] (w.alloc (.cells #[.int .i64 0, .int .i64 0, .int .i64 0] 35))) := OKr.start (OKs.nil w) rfl _ _ _
  go_enter Tryz.func46, Tryz.ntmps46
  go_wp2_with fail
  go_loopw [4, 5] (fun v i wr => ∃ (k : Nat) (pre : List Int) (cur : Int), k ≤ s.size ∧ i = .int .i64 k ∧ foldR (s.data.toList.take k) ([], 0) = some (pre, cur) ∧ 0 ≤ cur ∧ cur ≤ 9999 ∧ pre.length ≤ k ∧
      wr.ownsRow (w.heap.size + 1) 3 1 v (pre.length + 1) (intCells (pre ++ [cur])) ∧ OKr w w.heap.size [⟨w.heap.size, .int .i64 0, .int .i64 0, .int .i64 0⟩] wr) (fun _ i _ => s.size - (intOf i).toNat)
  case atStart =>
    refine ⟨0, [], 0, Nat.zero_le _, rfl, rfl, by decide, by decide, Nat.le_refl _, ?_, HO.out.alloc _⟩
    have h := World.ownsRow_lit (e := 3) (base := w.heap.size + 1) (size := 1) (w.alloc (.cells #[.int .i64 0, .int .i64 0, .int .i64 0] 35)) #[.int .i64 0] 1 (by simp) (by decide) rfl
    simpa [intCells] using h
  case round =>
    obtain ⟨k, pre, cur, hk, rfl, hfold, c0, c1, hpl, hrow, hok⟩ := hrel
    have HR := hideV hrow
    have HK := hideV hok
    have HF := hideV hfold
    clear hrow hok hfold HO
    obtain ⟨g, cap, rfl, hgb⟩ : ∃ g cap, u4 = .slice (some ⟨g, 0, none⟩) (pre.length + 1) cap ∧ w.heap.size + 1 ≤ g := by
      rcases HR.out.2 with ⟨_, h0⟩ | ⟨g, cap, cur', rfl, hb, _⟩
      · omega
      · exact ⟨g, cap, rfl, hb⟩
    have hcl : wr.cell? ⟨g, pre.length, none⟩ = some (.int .i64 cur) := (HR.out.cellAt pre.length (by omega)).trans (cells_last pre cur)
    have hfz := HR.out.frozenAt pre.length
    have hwr := HK.out.2.2.2.2
    by_cases hlt : k < s.size
    · by_cases hd : s[k].toNat = 46
      · have HN : Hid (foldR (s.data.toList.take (k + 1)) ([], 0) = some (pre ++ [cur], 0)) := fold_more hlt HF.out (by unfold stepR; rw [if_pos hd])
        have e46 : ((s[k].toNat : Int) == 46) = true := by rw [beq_iff_eq]; omega
        clear hcl hfz
        go_wp2_with (first
          | (at_builtin; refine wpList_append_own _ rfl _ _ 62 rfl (w.heap.size + 1) 3 i0 (.int .i64 0) 1 8 Tryz.underlying62 hi hz0 hz1 hz2 rfl (by decide) _ _ _ rfl (HR.out.alloc _) ⟨wr.heap.size, 0, none⟩ 1 1 [.int .i64 0] rfl rfl (int_news _ _) (by simp [Value.oneCell']) (by unfold maxLen; omega) (by omega) (by simp; omega) ?_; intro v' w3 hown' hg3 hnil3; go_frame)
          | fail)
        refine ⟨⟨k + 1, pre ++ [cur], 0, hlt, by go_num, HN.out, by decide, by decide, by simp; omega, ?_, ?_⟩, by simp [intOf]; omega⟩
        · have e1 : intCells (pre ++ [cur] ++ [0]) = intCells (pre ++ [cur]) ++ [.int .i64 0] := by unfold intCells; simp
          rw [e1, List.length_append]
          exact hown'
        · exact (HK.out.alloc _).grown (Nat.le_refl _) hg3 (fun j hj => by have : g = j := Option.some.inj hj; omega)
      · have e46 : ((s[k].toNat : Int) == 46) = false := by rw [beq_eq_false_iff_ne]; omega
        by_cases hc : 48 ≤ s[k].toNat ∧ s[k].toNat ≤ 57 ∧ cur ≤ 999
        · have HN : Hid (foldR (s.data.toList.take (k + 1)) ([], 0) = some (pre, 10 * cur + ((s[k].toNat : Int) - 48))) := fold_more hlt HF.out (by unfold stepR; rw [if_neg hd, if_pos hc])
          obtain ⟨d0, d1, d2⟩ := hc
          clear hd
          have w1 : IntKind.i64.wrap (10 * cur) = 10 * cur := by rw [IntKind.wrap_i64]; omega
          have w2 : IntKind.u8.wrap ((s[k].toNat : Int) - 48) = (s[k].toNat : Int) - 48 := by rw [IntKind.wrap_u8]; omega
          have w3 : IntKind.i64.wrap ((s[k].toNat : Int) - 48) = (s[k].toNat : Int) - 48 := by rw [IntKind.wrap_i64]; omega
          have w4 : IntKind.i64.wrap (10 * cur + ((s[k].toNat : Int) - 48)) = 10 * cur + ((s[k].toNat : Int) - 48) := by rw [IntKind.wrap_i64]; omega
          have b0 : (0 : Int) ≤ (pre.length : Int) := by omega
          have b1 : (pre.length : Int) < ((pre.length + 1 : Nat) : Int) := by omega
          go_wp2_with fail
          go_region
          all_goals go_wp2
          all_goals
            obtain ⟨r1, r2⟩ := HR.out.stored pre.length (.int .i64 (10 * cur + ((s[k].toNat : Int) - 48)))
            rw [cells_set] at r1
            refine ⟨⟨k + 1, pre, 10 * cur + ((s[k].toNat : Int) - 48), hlt, by go_num, HN.out, by omega, by omega, by omega, ?_, ?_⟩, by simp [intOf]; omega⟩
            · exact r1.drew
            · exact (HK.out.grown (Nat.le_refl _) r2 (fun j hj => by have : g = j := Option.some.inj hj; omega)).drew
        · have HN : Hid (okP s = false) := fold_bad hlt HF.out (by unfold stepR; rw [if_neg hd, if_neg hc])
          obtain ⟨_, f0, f1, f2, f3⟩ := HK.out
          obtain ⟨x0, y0, z0, s0⟩ := HK.out.1.one
          have b0 : (0 : Int) ≤ (pre.length : Int) := by omega
          have b1 : (pre.length : Int) < ((pre.length + 1 : Nat) : Int) := by omega
          clear hd
          by_cases q0 : s[k].toNat < 48
          · clear hc
            go_wp2_with fail
            obtain ⟨v0, v1, v2⟩ := setV x0 y0 z0
            try simp only [Exit.inBlock, Exit.then]
            refine bodyPost_ret (by simp [results, Tryz.results46, v0, v1, v2, go_sem]; try rfl) rfl ?_
            obtain ⟨e1, e2, e3⟩ := res_no HN.out
            exact ⟨ret_ver e1.symm e2.symm e3.symm HN.out.symm, below_setV (Nat.le_refl _) HK.out.1.1⟩
          by_cases q1 : 57 < s[k].toNat
          · clear hc
            go_wp2_with fail
            obtain ⟨v0, v1, v2⟩ := setV x0 y0 z0
            try simp only [Exit.inBlock, Exit.then]
            refine bodyPost_ret (by simp [results, Tryz.results46, v0, v1, v2, go_sem]; try rfl) rfl ?_
            obtain ⟨e1, e2, e3⟩ := res_no HN.out
            exact ⟨ret_ver e1.symm e2.symm e3.symm HN.out.symm, below_setV (Nat.le_refl _) HK.out.1.1⟩
          · have q2 : 999 < cur := by omega
            clear hc
            go_wp2_with fail
            obtain ⟨v0, v1, v2⟩ := setV x0 y0 z0
            try simp only [Exit.inBlock, Exit.then]
            refine bodyPost_ret (by simp [results, Tryz.results46, v0, v1, v2, go_sem]; try rfl) rfl ?_
            obtain ⟨e1, e2, e3⟩ := res_no HN.out
            exact ⟨ret_ver e1.symm e2.symm e3.symm HN.out.symm, below_setV (Nat.le_refl _) HK.out.1.1⟩
    · have hkk : k = s.size := by omega
      subst hkk
      have HF2 : Hid (foldR s.data.toList ([], 0) = some (pre, cur)) := by have h := HF.out; rw [fold_end (Nat.le_refl _)] at h; exact h
      obtain ⟨_, f0, f1, f2, f3⟩ := HK.out
      obtain ⟨x0, y0, z0, s0⟩ := HK.out.1.one
      by_cases hl : pre.length = 2
      · obtain ⟨x, y, rfl⟩ : ∃ x y, pre = [x, y] := by
          match pre, hl with
          | [x, y], _ => exact ⟨x, y, rfl⟩
        have a0 : wr.cell? ⟨g, 0, none⟩ = some (.int .i64 x) := (HR.out.cellAt 0 (by simp)).trans rfl
        have a1 : wr.cell? ⟨g, 1, none⟩ = some (.int .i64 y) := (HR.out.cellAt 1 (by simp)).trans rfl
        have a2 : wr.cell? ⟨g, 2, none⟩ = some (.int .i64 cur) := (HR.out.cellAt 2 (by simp)).trans rfl
        have HP : Hid (∀ w1, Below w.heap.size w w1 → Calls Tryz.prog 69 #[.agg #[.int .i64 x, .int .i64 y, .int .i64 cur]] w1 fun e w' => e = .returned (.string (textV x y cur)) ∧ Below w1.heap.size w1 w') := fun w1 _ => rPrint_any x y cur w1
        have hgl := cell_in a0
        clear hl hcl hfz
        simp only [List.length_cons, List.length_nil, Nat.zero_add, Nat.reduceAdd] at *
        by_cases hse : (s.toList == []) = true
        · have hem : s = ByteArray.empty := bytes_same ((beq_iff_eq.1 hse).trans (by rw [ByteArray.toList_eq]; rfl))
          have HN : Hid (okP s = false) := by unfold Hid; rw [hem]; exact okP_empty
          clear hem
          go_wp2_with fail
          go_region
          all_goals go_wp2_with fail
          all_goals
            obtain ⟨v0, v1, v2⟩ := setV x0 y0 z0
            try simp only [Exit.inBlock, Exit.then]
            refine bodyPost_ret (by simp [results, Tryz.results46, v0, v1, v2, f3, go_sem]; try rfl) rfl ?_
            obtain ⟨e1, e2, e3⟩ := res_no HN.out
            refine ⟨ret_ver e1.symm e2.symm e3.symm HN.out.symm, ?_⟩
            have hB := HK.out.1.1
            have hBs := hB.size
            have hB2 : Below w.heap.size w (((wr.setCell ⟨w.heap.size, 0, none⟩ (.int .i64 0)).setCell ⟨w.heap.size, 1, none⟩ (.int .i64 0)).setCell ⟨w.heap.size, 2, none⟩ (.int .i64 0)) := below_setV (Nat.le_refl _) hB
            exact (hB2.alloc hB2.size _).drew
        · have hne : s ≠ ByteArray.empty := fun e => hse (by rw [e, ByteArray.toList_eq]; rfl)
          rw [Bool.not_eq_true] at hse
          have HQ : Hid (OKr w w.heap.size [⟨wr.heap.size, .int .i64 x, .int .i64 y, .int .i64 cur⟩, ⟨w.heap.size, .int .i64 0, .int .i64 0, .int .i64 0⟩] (wr.alloc (.cells #[.int .i64 x, .int .i64 y, .int .i64 cur] 35))) := HK.out.box rfl _ _ _
          by_cases ht : textV x y cur = s
          · obtain ⟨h1, h2, h3, h4⟩ := fold_right hne ht
            have HN : Hid (okP s = true ∧ resA s = x ∧ resB s = y ∧ resC s = cur) := ⟨h1, h2, h3, h4⟩
            rw [ht] at HP
            clear ht hne h1 h2 h3 h4
            go_wp2_with fail
            go_region
            all_goals go_wp2_with (go_at_call 69; refine (liftr HP.out (N := w.heap.size) (bs := [⟨wr.heap.size, .int .i64 x, .int .i64 y, .int .i64 cur⟩, ⟨w.heap.size, .int .i64 0, .int .i64 0, .int .i64 0⟩]) _ ?_).mono ?_; (first | exact HQ.out | exact HQ.out.drew); clear HQ; rintro e w2 ⟨rfl, ok⟩; have HQ : Hid (OKr w w.heap.size [⟨wr.heap.size, .int .i64 x, .int .i64 y, .int .i64 cur⟩, ⟨w.heap.size, .int .i64 0, .int .i64 0, .int .i64 0⟩] w2) := ok; clear ok; obtain ⟨_, g0, g1, g2, g3⟩ := HQ.out; obtain ⟨p0, p1, p2, p3⟩ := HQ.out.1.one; obtain ⟨q0, q1, q2, q3⟩ := HQ.out.1.two)
            all_goals
              obtain ⟨v0, v1, v2⟩ := setV q0 q1 q2
              try simp only [Exit.inBlock, Exit.then]
              refine bodyPost_ret (by simp [results, Tryz.results46, v0, v1, v2, go_sem]; try rfl) rfl ?_
              obtain ⟨h1, h2, h3, h4⟩ := HN.out
              exact ⟨ret_ver h2.symm h3.symm h4.symm h1.symm, below_setV (Nat.le_refl _) HQ.out.1.1⟩
          · have HN : Hid (okP s = false) := fold_wrong HF2.out ht
            have hs1 := beq_eq_false_iff_ne.2 (fun e => ht (bytes_same e))
            clear hne ht
            generalize textV x y cur = T at *
            go_wp2_with fail
            go_region
            all_goals go_wp2_with (go_at_call 69; refine (liftr HP.out (N := w.heap.size) (bs := [⟨wr.heap.size, .int .i64 x, .int .i64 y, .int .i64 cur⟩, ⟨w.heap.size, .int .i64 0, .int .i64 0, .int .i64 0⟩]) _ ?_).mono ?_; (first | exact HQ.out | exact HQ.out.drew); clear HQ; rintro e w2 ⟨rfl, ok⟩; have HQ : Hid (OKr w w.heap.size [⟨wr.heap.size, .int .i64 x, .int .i64 y, .int .i64 cur⟩, ⟨w.heap.size, .int .i64 0, .int .i64 0, .int .i64 0⟩] w2) := ok; clear ok; obtain ⟨_, g0, g1, g2, g3⟩ := HQ.out; obtain ⟨p0, p1, p2, p3⟩ := HQ.out.1.one; obtain ⟨q0, q1, q2, q3⟩ := HQ.out.1.two)
            all_goals
              obtain ⟨v0, v1, v2⟩ := setV q0 q1 q2
              try simp only [Exit.inBlock, Exit.then]
              refine bodyPost_ret (by simp [results, Tryz.results46, v0, v1, v2, go_sem]; try rfl) rfl ?_
              obtain ⟨e1, e2, e3⟩ := res_no HN.out
              exact ⟨ret_ver e1.symm e2.symm e3.symm HN.out.symm, below_setV (Nat.le_refl _) HQ.out.1.1⟩
      · have HN : Hid (okP s = false) := fold_few HF2.out hl
        have b3 : (((pre.length : Int) + 1) == 3) = false := by rw [beq_eq_false_iff_ne]; omega
        clear hl
        go_wp2_with fail
        obtain ⟨v0, v1, v2⟩ := setV x0 y0 z0
        try simp only [Exit.inBlock, Exit.then]
        refine bodyPost_ret (by simp [results, Tryz.results46, v0, v1, v2, go_sem]; try rfl) rfl ?_
        obtain ⟨e1, e2, e3⟩ := res_no HN.out
        exact ⟨ret_ver e1.symm e2.symm e3.symm HN.out.symm, below_setV (Nat.le_refl _) HK.out.1.1⟩
end Go.Proofs.YtkmgfemhfibikaaGreatDoor
