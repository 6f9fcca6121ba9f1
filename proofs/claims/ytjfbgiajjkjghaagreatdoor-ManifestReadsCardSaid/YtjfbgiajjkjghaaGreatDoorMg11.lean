/- Rd2, Rd3, Mf4, Mf5, laid in one text. -/
import Derived.Deep.RegionLaw
import Derived.Deep.CutRange
import Derived.Test.YtjfbgiajjkjghaaGreatDoorMg10
namespace Go.Proofs.YtjfbgiajjkjghaaGreatDoor
open Go.RowKit
set_option maxRecDepth 100000

/-- Where a search stands. -/
def idxP (X : List Sc.Bs) (s : Sc.Bs) (k : Nat) : Prop := idxW X s = if idxW (X.drop k) s = -1 then -1 else idxW (X.drop k) s + (k : Int)
theorem idxP_zero (X : List Sc.Bs) (s : Sc.Bs) : idxP X s 0 := by
  unfold idxP
  rw [List.drop_zero]
  split
  · assumption
  · simp
theorem idxW_cons (x : Sc.Bs) (X : List Sc.Bs) (s : Sc.Bs) : idxW (x :: X) s = if s = x then 0 else if idxW X s = -1 then -1 else idxW X s + 1 := rfl
theorem idxP_hit {X : List Sc.Bs} {s : Sc.Bs} {k : Nat} (h : idxP X s k) (hk : k < X.length) (e : s = X[k]) : idxW X s = (k : Int) := by
  unfold idxP at h
  rw [List.drop_eq_getElem_cons hk, idxW_cons, if_pos e] at h
  rw [h, if_neg (by omega)]
  omega
theorem idxP_miss {X : List Sc.Bs} {s : Sc.Bs} {k : Nat} (h : idxP X s k) (hk : k < X.length) (e : s ≠ X[k]) : idxP X s (k + 1) := by
  unfold idxP at h ⊢
  rw [List.drop_eq_getElem_cons hk, idxW_cons, if_neg e] at h
  rw [h]
  have hb := (idxW_lt (X.drop (k + 1)) s).2
  by_cases h1 : idxW (X.drop (k + 1)) s = -1
  · rw [if_pos h1, if_pos h1, if_pos rfl]
  · rw [if_neg h1, if_neg h1, if_neg (by omega)]
    omega
theorem idxP_end {X : List Sc.Bs} {s : Sc.Bs} (h : idxP X s X.length) : idxW X s = -1 := by
  unfold idxP at h
  rw [List.drop_length] at h
  simpa [idxW] using h

set_option maxHeartbeats 1600000 in
theorem Index_any {X : List Sc.Bs} {v : Value} {w : World} (h : Sc.WordsAt w v X) (hl : X.length ≤ 1000000) (s : Sc.Bs) :
    Calls Tryz.prog 57 #[v, .string (Sc.ba s)] w fun e w' => e = .returned (.int .i64 (idxW X s)) ∧ w' = w := by
  obtain ⟨ad, cap, rfl, hc, hs⟩ := h
  have HS := hide3 hs
  clear hs
  have hts := ba_toList s
  have HI0 := hide3 (idxP_zero X s)
  go_enter Tryz.func57, Tryz.ntmps57
  go_wp2_with fail
  go_loopw [8] (fun i wr => ∃ k : Nat, k ≤ X.length ∧ i = .int .i64 k ∧ wr = w ∧ idxP X s k) (fun i _ => X.length - (intOf i).toNat)
  case atStart => exact ⟨0, Nat.zero_le _, rfl, rfl, HI0.out⟩
  case round =>
    obtain ⟨k, hk, rfl, rfl, hip⟩ := hrel
    have HIP := hide3 hip
    clear hip
    by_cases hlt : k < X.length
    · obtain ⟨g, o, rfl, hg, hcs⟩ : ∃ g o, ad = some ⟨g, o, none⟩ ∧ g < wr.heap.size ∧ ∀ i (h : i < X.length), wr.cell? ⟨g, o + i, none⟩ = some (.string (Sc.ba X[i])) := by
        rcases HS.out with h | h
        · rw [h] at hlt; simp at hlt
        · exact h
      have c0 := hcs k hlt
      have htk := ba_toList X[k]
      clear hcs
      by_cases e : s = X[k]
      · have HR := hide3 (idxP_hit HIP.out hlt e)
        have hq : ((Sc.ba s).toList == (Sc.ba X[k]).toList) = true := by rw [e]; simp
        clear hts htk
        go_wp2
        go_ret
        exact ⟨by rw [HR.out]; rfl, rfl⟩
      · have HR := hide3 (idxP_miss HIP.out hlt e)
        have hq : ((Sc.ba s).toList == (Sc.ba X[k]).toList) = false := by rw [hts, htk]; simpa using e
        clear hts htk
        go_wp2
        exact ⟨⟨k + 1, by omega, by go_num, by first | rfl | trivial, HR.out⟩, by simp [intOf]; omega⟩
    · obtain rfl : k = X.length := by omega
      have HR := hide3 (idxP_end HIP.out)
      go_wp2
      go_ret
      exact ⟨by rw [HR.out]; rfl, rfl⟩

/-- What the walk of Read keeps. -/
def KX (w : World) (N : Nat) (rows : List (Value × List (Dp × Value))) (w1 : World) : Prop := Below w.heap.size w w1 ∧ RD w1 w.heap.size N rows
theorem keepKX (w : World) (N : Nat) (rows : List (Value × List (Dp × Value))) : KeepP (KX w N rows) := (keepBelow w).and (keepRD _ _ _)
theorem infoDep : (Tryz.prog.info? 36).map (fun i => (i.zero, i.size, i.bytes)) = some (some (.agg #[.string ⟨#[]⟩, .slice none 0 0]), 2, 40) := by kernel_rfl
theorem infoDeps : (Tryz.prog.info? 22).map (fun i => (i.zero, i.size, i.bytes)) = some (some (.slice none 0 0), 1, 24) := by kernel_rfl

/-- What an append to list k leaves. -/
def AppK (w : World) (N : Nat) (rows : List (Value × List (Dp × Value))) (k : Nat) (d : Dp) (u v1 : Value) (w1 : World) : Prop :=
  KX w N (rows.set k (v1, rows[k]!.2 ++ [(d, u)])) (w1.setCell ⟨N, k, none⟩ v1) ∧ w1.cell? ⟨N, k, none⟩ = some rows[k]!.1 ∧ w1.frozen? ⟨N, k, none⟩ = false ∧ ∃ ad n cap, v1 = .slice ad n cap

/-- A dependency is put behind a list, in a region that draws its order. -/
theorem step_appD {w wx : World} {N : Nat} {rows : List (Value × List (Dp × Value))} {k : Nat} {d : Dp} {u : Value} {ops : Array Oper} {o : Oper} {f : Act} {K : Act → World → Prop} {Q : Exit → Act → World → Prop} {E : Prop} (hgd : o.guard = none) (s t : Operand)
    (ho : o.op = .call { callee := .builtin .append, args := #[s, t], argTypes := #[22, 22] }) {vk : Value} (hs : f.eval s = vk) (hk : k < rows.length) (hvk : rows[k]!.1 = vk)
    (hK : KX w N rows wx) (hu : OwnS wx w.heap.size u d.rg) {nm : ByteArray} (hnm : d.nm = nm) {M : Nat} (hM : wx.heap.size = M) (hx : f.eval t = .slice (some ⟨M, 0, none⟩) 1 1) (hlen : rows[k]!.2.length ≤ 1000000)
    (h : ∀ v1 w1, AppK w N rows k d u v1 w1 → K (f.put o.dst v1) w1) :
    if Region.wanted o (yielded ops f.tmps) = true then Oper.wp Tryz.prog o f (wx.alloc (.cells #[.string nm, u] 36)) K Q else E := by
  have hw : Region.wanted o (yielded ops f.tmps) = true := by simp [Region.wanted, hgd]
  rw [if_pos hw]
  subst hM hnm
  have erk : rows[k]! = rows[k] := getElem!_pos rows k hk
  rw [erk] at hvk hlen
  obtain ⟨i0, hi, hz0, hz1, hz2⟩ := Sc.info_parts infoDep
  have hKa := keepKX w N rows _ _ hK (boxB wx (.cells #[.string d.nm, u] 36))
  have hua := hu.below (boxB wx (.cells #[.string d.nm, u] 36))
  have hrow := hKa.2.2.1 _ (List.getElem_mem hk)
  have hsz : (wx.alloc (.cells #[.string d.nm, u] 36)).heap.size = wx.heap.size + 1 := by simp
  have hwx := hK.1.size
  obtain ⟨au, lu, cu, hus⟩ : ∃ au lu cu, u = .slice au lu cu := by
    obtain ⟨ad, cap, rfl, _⟩ := hu.sp
    exact ⟨_, _, _, rfl⟩
  have hown := hrow.1
  rw [hvk] at hown
  obtain ⟨v1, w1, hr, hown1, hg1, _, hat⟩ := run_append_own_at (P := Tryz.prog) (wx.alloc (.cells #[.string d.nm, u] 36)) w.heap.size 22 o.type 36 i0 _ 2 40 Tryz.underlying22 hi hz0 hz1 hz2 rfl (by decide) vk _ _ hown ⟨wx.heap.size, 0, none⟩ 1 1 [.string d.nm, u] rfl
    (World.news_of_block (cs := #[.string d.nm, u]) (t := 36) (fr := (0, 0)) (by show (wx.heap.push _)[wx.heap.size]? = _; rw [Array.getElem?_push, if_pos rfl])) (by rw [hus]; simp [Value.oneCell']) (by unfold maxLen; omega) (by omega) (by omega)
  unfold Oper.wp execOp
  simp only [ho, resolve, invoke, builtin, Sem.run_bind, Sem.run_pure, Result.andThen_ok, List.map_toArray, List.map_cons, List.map_nil, hs, hx, hr]
  rw [← hvk] at hg1 hat
  have hN := hKa.2.size
  have hNe : some N ≠ rows[k].1.ownBlock := fun e => own_ne hKa.2.1 hrow.1 (by decide) rfl e.symm
  have hblk := hg1.block N hN.2 hNe
  refine h v1 w1 ⟨⟨?_, ?_⟩, ?_, ?_, ?_⟩
  · exact (hKa.1.grown hg1 (by omega) (fun q hq => (hrow.1.lt q hq).1)).setCell (p := ⟨N, k, none⟩) hN.1 _
  · rw [erk]
    exact hKa.2.app k hk hua hown1 hg1 hat
  · rw [erk, World.cell?_of_block (a := ⟨N, k, none⟩) hblk]
    exact hKa.2.cell k hk
  · rw [World.frozen?_of_block (a := ⟨N, k, none⟩) hblk]
    exact hKa.2.frozen k
  · rcases hown1.2 with ⟨e, _⟩ | ⟨g, cap, cur, e, _⟩
    · exact ⟨_, _, _, e⟩
    · exact ⟨_, _, _, e⟩
end Go.Proofs.YtjfbgiajjkjghaaGreatDoor
namespace Go.Proofs.YtjfbgiajjkjghaaGreatDoor
open Go.RowKit
set_option maxRecDepth 100000

/-- Lines that are not too long. -/
def ShortLn (ln : List Sc.Bs) : Prop := ln.length ≤ 5000 ∧ (Lib.join (ln.drop 2) [32]).length ≤ 5000
/-- What Read answers, in memory. -/
def ReadQ (w : World) (R : Int × List (List Dp)) (e : Ending) (w' : World) : Prop := ∃ v, e = .returned (.tuple #[v, .int .i64 R.1]) ∧ Below w.heap.size w w' ∧ (R.1 = 0 → ∃ N rows, v = .slice (some ⟨N, 0, none⟩) rows.length rows.length ∧ RD w' w.heap.size N rows ∧ plainR rows = R.2) ∧ (R.1 ≠ 0 → v = .slice none 0 0)
theorem ReadQ.err {w w' : World} {R : Int × List (List Dp)} {er : Int} (hR : R.1 = er) (h0 : er ≠ 0) (hb : Below w.heap.size w w') : ReadQ w R (.returned (.tuple #[.slice none 0 0, .int .i64 er])) w' := by
  subst hR
  exact ⟨_, rfl, hb, fun h => absurd h h0, fun _ => rfl⟩
/-- Where the loop of Read stands. -/
def RelR (w : World) (X : List Sc.Bs) (Lns : List (List Sc.Bs)) (va vi : Value) (wr : World) : Prop :=
  ∃ (k a : Nat) (rows : List (Value × List (Dp × Value))), k ≤ Lns.length ∧ vi = .int .i64 k ∧ va = .int .i64 a ∧ rows.length = X.length ∧ (∀ r ∈ rows, r.2.length ≤ k) ∧ KX w w.heap.size rows wr ∧ readF X 0 (List.replicate X.length []) Lns = readF X a (plainR rows) (Lns.drop k)

theorem plainR_get {rows : List (Value × List (Dp × Value))} {k : Nat} (hk : k < rows.length) : (plainR rows).getD k [] = rows[k].2.map (·.1) := by
  unfold plainR
  rw [List.getD_eq_getElem?_getD, List.getElem?_map, List.getElem?_eq_getElem hk]
  rfl
theorem plainR_set {rows : List (Value × List (Dp × Value))} {k : Nat} (hk : k < rows.length) (v : Value) (d : Dp) (u : Value) : plainR (rows.set k (v, rows[k].2 ++ [(d, u)])) = (plainR rows).set k ((plainR rows).getD k [] ++ [d]) := by
  rw [plainR_get hk]
  unfold plainR
  rw [List.map_set]
  simp
theorem readF_short {X : List Sc.Bs} {a : Nat} {acc : List (List Dp)} {ln : List Sc.Bs} {r : List (List Sc.Bs)} (h : ln.length < 3) : (readF X a acc (ln :: r)).1 = 22 := by
  unfold readF
  rw [if_pos h]
theorem readF_word {X : List Sc.Bs} {a : Nat} {acc : List (List Dp)} {ln : List Sc.Bs} {r : List (List Sc.Bs)} (h : ¬ ln.length < 3) (h2 : idxW X (ln.getD 0 []) < (a : Int)) : (readF X a acc (ln :: r)).1 = 22 := by
  unfold readF
  rw [if_neg h, if_pos h2]
theorem readF_err {X : List Sc.Bs} {a : Nat} {acc : List (List Dp)} {ln : List Sc.Bs} {r : List (List Sc.Bs)} {k : Nat} (h : ¬ ln.length < 3) (h2 : idxW X (ln.getD 0 []) = (k : Int)) (h3 : a ≤ k) {er : Int} (h4 : depE (lastN (acc.getD k [])) (Sc.ba (ln.getD 1 [])) (ln.drop 2) = er) (h0 : er ≠ 0) : (readF X a acc (ln :: r)).1 = er := by
  unfold readF
  rw [if_neg h, h2, if_neg (by omega), Int.toNat_natCast, h4, if_neg h0]
theorem readF_step {X : List Sc.Bs} {a : Nat} {acc : List (List Dp)} {ln : List Sc.Bs} {r : List (List Sc.Bs)} {k : Nat} (h : ¬ ln.length < 3) (h2 : idxW X (ln.getD 0 []) = (k : Int)) (h3 : a ≤ k) (h4 : depE (lastN (acc.getD k [])) (Sc.ba (ln.getD 1 [])) (ln.drop 2) = 0) : readF X a acc (ln :: r) = readF X k (acc.set k (acc.getD k [] ++ [lineDp ln])) r := by
  conv => lhs; unfold readF
  rw [if_neg h, h2, if_neg (by omega), Int.toNat_natCast, if_pos h4]

theorem far2 {w : World} {N : Nat} {x y v : Value} {a : Addr} (h : a.block ≠ N) (hc : w.cell? a = some v) : ((w.setCell ⟨N, 0, none⟩ x).setCell ⟨N, 1, none⟩ y).cell? a = some v :=
  (World.cell?_setCell_other _ _ _ _ (fun e => h (by rw [← e]))).trans ((World.cell?_setCell_other _ _ _ _ (fun e => h (by rw [← e]))).trans hc)

set_option maxHeartbeats 6400000 in
theorem Read_any {X : List Sc.Bs} {Lns : List (List Sc.Bs)} {vl vx : Value} {w : World} (hl : Sc.LinesAt w vl Lns) (hx : Sc.WordsAt w vx X) (hX : X.length ≤ 16) (hn : Lns.length ≤ 5000) (hs : ∀ ln ∈ Lns, ShortLn ln) (he : Env w) (hf : FL w) :
    Calls Tryz.prog 42 #[vl, vx] w (ReadQ w (readF X 0 (List.replicate X.length []) Lns)) := by
  have HIX : Hid (∀ w1 s, Below w.heap.size w w1 → Calls Tryz.prog 57 #[vx, .string (Sc.ba s)] w1 fun e w' => e = .returned (.int .i64 (idxW X s)) ∧ w' = w1) := fun w1 s hb => Index_any (hx.below hb) (by omega) s
  have HIL := hide3 (idxW_lt X)
  have HRD : Hid (∀ w1 (n : ByteArray) vw va (ws : List Sc.Bs) (A : List Dp), Below w.heap.size w w1 → Sc.WordsAt w1 vw ws → ws ≠ [] → ws.length ≤ 5000 → (Lib.join ws [32]).length ≤ 5000 → DepsAt w1 va A → A.length ≤ 10000 → Calls Tryz.prog 58 #[.string n, vw, va] w1 (DepQ w1 n ws (depE (lastN A) n ws))) := fun w1 n vw va ws A hb h1 h2 h3 h4 h5 h6 => readDep_any h1 h2 (by omega) (by omega) h5 (by omega) (he.below hb) (hf.below hb)
  have HLN : Hid (∀ w1, Below w.heap.size w w1 → Sc.LinesAt w1 vl Lns) := fun w1 hb => hl.below hb
  have HS := hide3 hs
  have HER : Hid (∀ er w', (readF X 0 (List.replicate X.length []) Lns).1 = er → er ≠ 0 → Below w.heap.size w w' → ReadQ w (readF X 0 (List.replicate X.length []) Lns) (.returned (.tuple #[.slice none 0 0, .int .i64 er])) w') := fun er w' h1 h2 h3 => ReadQ.err h1 h2 h3
  have HOK : Hid (∀ (rows : List (Value × List (Dp × Value))) w', rows.length = X.length → KX w w.heap.size rows w' → readF X 0 (List.replicate X.length []) Lns = (0, plainR rows) → ReadQ w (readF X 0 (List.replicate X.length []) Lns) (.returned (.tuple #[.slice (some ⟨w.heap.size, 0, none⟩) X.length X.length, .int .i64 0])) w') := fun rows w' h0 h1 h2 => by
    rw [h2]
    exact ⟨_, rfl, h1.1, fun _ => ⟨w.heap.size, rows, by rw [h0], h1.2, rfl⟩, fun h => absurd rfl h⟩
  obtain ⟨adl, capl, rfl, hcl, _⟩ := hl
  obtain ⟨adx, capx, rfl, hcx, _⟩ := hx
  obtain ⟨i0, hi, hz0, hz1, hz2⟩ := Sc.info_parts infoDeps
  clear hs he hf
  have HRF : Hid (readF X 0 (List.replicate X.length []) Lns = readF X 0 (plainR (List.replicate X.length (.slice none 0 0, []))) (Lns.drop 0)) := by
    unfold Hid plainR
    rw [List.map_replicate, List.drop_zero]
    rfl
  generalize hFR : readF X 0 (List.replicate X.length []) Lns = FR at *
  clear hFR
  generalize hQ : ReadQ w FR = RQ at *
  clear hQ
  go_enter Tryz.func42, Tryz.ntmps42
  go_wp2_with (at_make; refine wpList_make_full _ rfl _ _ 57 rfl w.heap.size 22 i0 _ 1 Tryz.underlying57 hi hz0 hz1 .i64 .i64 _ _ X.length rfl rfl rfl rfl (by rw [hz2]; omega) (by unfold maxLen; omega) (Nat.le_refl _) ?_; intro w1 hown1 hg1; have HK1 : Hid (KX w w.heap.size (List.replicate X.length (.slice none 0 0, [])) w1) := ⟨(Below.refl _ _).grown hg1 (Nat.le_refl _) (fun q hq => by cases hq), RD.start (by rw [Nat.mul_one] at hown1; rw [show (Value.slice none 0 0).cells = #[Value.slice none 0 0] from rfl, toList_madeCells_one] at hown1; exact hown1)⟩; clear hown1 hg1)
  go_loopw [7, 18] (fun va vi wr => ∃ (k a : Nat) (rows : List (Value × List (Dp × Value))), k ≤ Lns.length ∧ vi = .int .i64 k ∧ va = .int .i64 a ∧ rows.length = X.length ∧ (∀ r ∈ rows, r.2.length ≤ k) ∧ KX w w.heap.size rows wr ∧ FR = readF X a (plainR rows) (Lns.drop k)) (fun _ i _ => Lns.length - (intOf i).toNat)
  case atStart => exact ⟨0, 0, _, Nat.zero_le _, rfl, rfl, List.length_replicate .., (fun r hr => by obtain ⟨_, rfl⟩ := List.mem_replicate.1 hr; exact Nat.le_refl _), HK1.out, HRF.out⟩
  case round =>
    clear HK1 HRF
    obtain ⟨k, a, rows, hk, rfl, rfl, hrl, hrk, hkx, hrf⟩ := hrel
    have HKX := hide3 hkx
    have HRK := hide3 hrk
    by_cases hlt : k < Lns.length
    · obtain ⟨ad2, cap2, e2, _, hcs⟩ := HLN.out wr hkx.1
      cases e2
      obtain ⟨gl, ol, rfl, hgl, hcs⟩ : ∃ g o, adl = some ⟨g, o, none⟩ ∧ g < wr.heap.size ∧ ∀ i (h : i < Lns.length), ∃ u, wr.cell? ⟨g, o + i, none⟩ = some u ∧ Sc.WordsAt wr u Lns[i] := by
        rcases hcs with h | h
        · rw [h] at hlt; simp at hlt
        · exact h
      obtain ⟨u, cl, hwu⟩ := hcs k hlt
      have hsl := HS.out _ (List.getElem_mem hlt)
      rw [List.drop_eq_getElem_cons hlt] at hrf
      clear hcs hrk hkx
      obtain ⟨adu, capu, rfl, hcu, hwc⟩ := hwu
      generalize Lns[k] = ln at *
      by_cases h3 : ln.length < 3
      · have HR : Hid (FR.1 = 22) := by unfold Hid; rw [hrf]; exact readF_short h3
        have h3i : decide ((ln.length : Int) < 3) = true := decide_eq_true (by omega)
        clear hrf hwc hsl
        go_wp2
        exact HER.out 22 _ HR.out (by decide) HKX.out.1
      · obtain ⟨p0, p1, rest, rfl⟩ : ∃ p0 p1 rest, ln = p0 :: p1 :: rest := by
          match ln, h3 with
          | [], h => exact absurd (by simp) h
          | [_], h => exact absurd (by simp) h
          | p0 :: p1 :: rest, _ => exact ⟨_, _, _, rfl⟩
        have hrne : rest ≠ [] := by
          intro e
          subst e
          exact h3 (by simp)
        obtain ⟨gw, ow, rfl, hgw, hwc⟩ : ∃ g o, adu = some ⟨g, o, none⟩ ∧ g < wr.heap.size ∧ ∀ i (h : i < (p0 :: p1 :: rest).length), wr.cell? ⟨g, o + i, none⟩ = some (.string (Sc.ba (p0 :: p1 :: rest)[i])) := by
          rcases hwc with h | h
          · cases h
          · exact h
        have c0 : wr.cell? ⟨gw, ow, none⟩ = some (.string (Sc.ba p0)) := hwc 0 (by simp)
        have c1 : wr.cell? ⟨gw, ow + 1, none⟩ = some (.string (Sc.ba p1)) := hwc 1 (by simp)
        have HWR : Hid (∀ w1, Below wr.heap.size wr w1 → Sc.WordsAt w1 (.slice (some ⟨gw, ow + 2, none⟩) rest.length (capu - 2)) rest) := fun w1 hb => by
          refine Sc.WordsAt.below (w := wr) ⟨_, _, rfl, by simp at hcu; omega, Or.inr ⟨gw, ow + 2, rfl, hgw, fun i hi => ?_⟩⟩ hb
          have := hwc (i + 2) (by simp; omega)
          simpa [Nat.add_assoc, Nat.add_comm 2 i] using this
        have hnl : (p0 :: p1 :: rest).length = rest.length + 2 := rfl
        rw [hnl] at hcu h3 cl
        have h3i : decide ((rest.length : Int) + 2 < 3) = false := decide_eq_false (by omega)
        have hb0 : (0 : Int) < (rest.length : Int) + 2 := by omega
        have hb1 : (1 : Int) < (rest.length : Int) + 2 := by omega
        have hb2 : (2 : Int) ≤ (rest.length : Int) + 2 := by omega
        have hb3 : (rest.length : Int) + 2 ≤ (capu : Int) := by omega
        have hc2 : ¬ (capu = 2) := by have : rest.length ≠ 0 := fun e => hrne (List.eq_nil_of_length_eq_zero e); omega
        have hrl0 : 0 < rest.length := Nat.pos_of_ne_zero fun e => hrne (List.eq_nil_of_length_eq_zero e)
        have hix := HIL.out p0
        have HI0 : Hid (∀ w1, Below w.heap.size w w1 → Calls Tryz.prog 57 #[.slice adx X.length capx, .string (Sc.ba p0)] w1 fun e w' => e = .returned (.int .i64 (idxW X p0)) ∧ w' = w1) := fun w1 hb => HIX.out w1 p0 hb
        clear hwc
        by_cases hia : idxW X p0 < (a : Int)
        · have HR : Hid (FR.1 = 22) := by unfold Hid; rw [hrf]; exact readF_word (by simp; omega) hia
          clear hrf hsl
          generalize idxW X p0 = ix at *
          go_wp2_with (go_at_call 57; refine (HI0.out _ HKX.out.1).mono ?_; rintro e w2 ⟨rfl, rfl⟩)
          exact HER.out 22 _ HR.out (by decide) HKX.out.1
        · obtain ⟨kk, hkk⟩ : ∃ kk : Nat, idxW X p0 = (kk : Int) := ⟨(idxW X p0).toNat, by omega⟩
          rw [hkk] at HI0 hix hia
          have hak : a ≤ kk := by omega
          have hkr : kk < rows.length := by omega
          have hkX : (kk : Int) < (X.length : Int) := by omega
          have cN : wr.cell? ⟨w.heap.size, kk, none⟩ = some rows[kk].1 := HKX.out.2.cell kk hkr
          have HPG := hide3 (plainR_get hkr)
          have HDA : Hid (∀ w1, Below wr.heap.size wr w1 → DepsAt w1 rows[kk].1 (rows[kk].2.map (·.1))) := fun w1 hb => ((HKX.out.2.2.1 _ (List.getElem_mem hkr)).at).below hb
          have hrkk : rows[kk].2.length ≤ 5000 := Nat.le_trans (HRK.out _ (List.getElem_mem hkr)) (by omega)
          obtain ⟨adk, capk, hvk⟩ := (HKX.out.2.2.1 _ (List.getElem_mem hkr)).len
          have HRD2 : Hid (∀ w1, Below wr.heap.size wr w1 → Calls Tryz.prog 58 #[.string (Sc.ba p1), .slice (some ⟨gw, ow + 2, none⟩) rest.length (capu - 2), rows[kk].1] w1 (DepQ w1 (Sc.ba p1) rest (depE (lastN (rows[kk].2.map (·.1))) (Sc.ba p1) rest))) := fun w1 hb => HRD.out w1 _ _ _ _ _ (below_then HKX.out.1 hb) (HWR.out w1 hb) hrne (by have := hsl.1; simp at this; omega) hsl.2 (HDA.out w1 hb) (by rw [List.length_map]; omega)
          have HVK := hide3 hvk
          rw [hvk] at cN HRD2
          have gwb := cell_in c0
          have hNb := HKX.out.2.size
          have HFE : Hid (depE (lastN (rows[kk].2.map (·.1))) (Sc.ba p1) rest ≠ 0 → FR.1 = depE (lastN (rows[kk].2.map (·.1))) (Sc.ba p1) rest) := fun her => by rw [hrf]; exact readF_err (k := kk) (by simp; omega) hkk hak (by rw [HPG.out]; rfl) her
          have HFS : Hid (depE (lastN (rows[kk].2.map (·.1))) (Sc.ba p1) rest = 0 → ∀ v u, FR = readF X kk (plainR (rows.set kk (v, rows[kk].2 ++ [(lineDp (p0 :: p1 :: rest), u)]))) (Lns.drop (k + 1))) := fun her v u => by rw [hrf, plainR_set hkr]; exact readF_step (k := kk) (by simp; omega) hkk hak (by rw [HPG.out]; exact her)
          have HLD : Hid ((lineDp (p0 :: p1 :: rest)).nm = Sc.ba p1 ∧ (lineDp (p0 :: p1 :: rest)).rg = (parL (parR (jnT rest))).map spR) := ⟨rfl, rfl⟩
          have HDQ : Hid (∀ w1 er e w', DepQ w1 (Sc.ba p1) rest er e w' → ∃ nm ad len cap, e = .returned (.tuple #[.agg #[.string nm, .slice ad len cap], .int .i64 er]) ∧ Below w1.heap.size w1 w' ∧ (er = 0 → nm = Sc.ba p1 ∧ OwnS w' w1.heap.size (.slice ad len cap) (lineDp (p0 :: p1 :: rest)).rg)) := fun w1 er e w' h => by
            obtain ⟨nm, ad, len, cap, h1, h2, h3, _⟩ := h
            exact ⟨nm, ad, len, cap, h1, h2, h3⟩
          clear hrf hsl HDA HWR HPG
          have hgne : gw ≠ wr.heap.size := by have := gwb; simp only at this; omega
          have hNne : w.heap.size ≠ wr.heap.size := by have := hNb.2; omega
          generalize depE (lastN (rows[kk].2.map (·.1))) (Sc.ba p1) rest = de at *
          generalize lineDp (p0 :: p1 :: rest) = LD at *
          go_upto_region 12 with (first | (go_at_call 57; refine (HI0.out _ HKX.out.1).mono ?_; rintro e w2 ⟨rfl, hw2⟩; obtain rfl : wr = w2 := hw2.symm))
          go_cut [7, 11, 12, 18] from 18 to 60 (fun s7 s11 s12 s18 wx => ∃ M nm ad5 len5 cap5, s7 = .int .i64 (kk : Int) ∧ s18 = .int .i64 (k : Int) ∧ s12 = .int .i64 de ∧ s11 = .pointer (some ⟨M, 0, none⟩) ∧ BxD wx M nm (.slice ad5 len5 cap5) ∧ Below wr.heap.size wr wx ∧ (de = 0 → nm = Sc.ba p1 ∧ OwnS wx w.heap.size (.slice ad5 len5 cap5) LD.rg))
          case first =>
            go_region_held3 (fun w' => w'.cell? ⟨gw, ow + 1, none⟩ = some (.string (Sc.ba p1)) ∧ w'.cell? ⟨w.heap.size, kk, none⟩ = some (.slice adk rows[kk].2.length capk)) (first | exact ⟨far2 hgne c1', far2 hNne cN'⟩ | go_keep)
              (first
                | (go_at_call 58; refine (HRD2.out _ (Below.refl _ _).drew).mono ?_; rintro e w5 hdq; obtain ⟨nm5, ad5, len5, cap5, rfl, hb5, ho5⟩ := HDQ.out _ _ _ _ hdq; have HB5 : Hid (Below wr.heap.size wr w5) := below_then (Below.refl _ _).drew hb5; have HO5 := hide3 ho5; have c1' : w5.cell? ⟨gw, ow + 1, none⟩ = some (.string (Sc.ba p1)) := (hb5.cell (p := ⟨gw, ow + 1, none⟩) gwb).trans c1; have cN' : w5.cell? ⟨w.heap.size, kk, none⟩ = some (.slice adk rows[kk].2.length capk) := (hb5.cell (p := ⟨w.heap.size, kk, none⟩) hNb.2).trans cN; clear hb5 ho5 hdq)
                | (go_at_call 58; refine (HRD2.out _ (boxB _ _).drew).mono ?_; rintro e w5 hdq; obtain ⟨nm5, ad5, len5, cap5, rfl, hb5, ho5⟩ := HDQ.out _ _ _ _ hdq; have HB5 : Hid (Below wr.heap.size wr w5) := below_then (boxB _ _).drew hb5; have HO5 := hide3 ho5; have HX5 : Hid (BxDF w5 wr.heap.size ⟨#[]⟩ (.slice none 0 0)) := keepBxDF _ _ _ _ _ ((keepBxDF _ _ _).drew (BxDF.new rfl _ _)) hb5; obtain ⟨⟨b0, b1, b2⟩, b3, b4⟩ := HX5.out; have c1' : w5.cell? ⟨gw, ow + 1, none⟩ = some (.string (Sc.ba p1)) := (HB5.out.cell (p := ⟨gw, ow + 1, none⟩) gwb).trans c1; have cN' : w5.cell? ⟨w.heap.size, kk, none⟩ = some (.slice adk rows[kk].2.length capk) := (HB5.out.cell (p := ⟨w.heap.size, kk, none⟩) hNb.2).trans cN; clear hb5 ho5 hdq))
            all_goals go_wp2_with fail
            all_goals go_meet
            all_goals first
              | exact ⟨w5.heap.size, nm5, ad5, len5, cap5, rfl, rfl, rfl, rfl, BxD.new rfl _ _, below_then HB5.out (boxB _ _), fun h => ⟨(HO5.out h).1, ((HO5.out h).2.base HKX.out.1.size).below (boxB _ _)⟩⟩
              | exact ⟨wr.heap.size, nm5, ad5, len5, cap5, rfl, rfl, rfl, rfl, ⟨(set2 b0 b1).2.2.1 _ _, (set2 b0 b1).2.2.2 _ _, by simpa using b2⟩, below_set2 (Nat.le_refl _) HB5.out, fun h => ⟨(HO5.out h).1, (((HO5.out h).2.base (by have := HKX.out.1.size; simp; omega)).set (fun e => by have := ((HO5.out h).2.lt e).2; simp at this; omega) 0 _).set (fun e => by have := ((HO5.out h).2.lt e).2; simp at this; omega) 1 _⟩⟩
          case rest =>
            obtain ⟨M, nm, ad5, len5, cap5, rfl, rfl, rfl, rfl, hbx, hbl, hok⟩ := hcut
            have HBX := hide3 hbx
            have HBL := hide3 hbl
            have HKC := hide3 (keepKX _ _ _ _ _ HKX.out hbl)
            clear hbx hbl
            by_cases her : de = 0
            · obtain ⟨hnm, hou⟩ := hok her
              subst hnm
              have HOU := hide3 hou
              have HS2 := hide3 (HFS.out her)
              have erk : rows[kk]! = rows[kk] := getElem!_pos rows kk hkr
              have hNk : wc.cell? ⟨w.heap.size, kk, none⟩ = some (.slice adk rows[kk].2.length capk) := by rw [HKC.out.2.cell kk hkr, HVK.out]
              obtain ⟨m0, m1, m2⟩ := HBX.out
              have hNk' : (wc.alloc (.cells #[.string (Sc.ba p1), .slice ad5 len5 cap5] 36)).cell? ⟨w.heap.size, kk, none⟩ = some (.slice adk rows[kk].2.length capk) := ((boxB wc _).cell (p := ⟨w.heap.size, kk, none⟩) (HKC.out.2.size).2).trans hNk
              subst her
              clear hok hou HFS HFE
              go_upto_region 15 with fail
              go_region_law (refine step_appD (w := w) (wx := wc.drew) (N := w.heap.size) (rows := rows) (k := kk) (d := LD) (u := .slice ad5 len5 cap5) rfl (.tmp 55) (.tmp 57) rfl (vk := .slice adk rows[kk].2.length capk) rfl hkr (by rw [erk]; exact HVK.out) ((keepKX _ _ _).drew HKC.out) (HOU.out.below (Below.refl _ _).drew) HLD.out.1 rfl rfl (by rw [erk]; omega) ?_; intro v6 w6 hak6; obtain ⟨hk6, n0, n1, ad6, len6, cap6, rfl⟩ := hak6; rw [erk] at hk6 n0; rw [HVK.out] at n0; have HK6 := hide3 hk6; clear hk6)
              all_goals go_wp2
              all_goals exact ⟨⟨k + 1, kk, _, by omega, by go_num, rfl, (List.length_set ..).trans hrl, (fun r hr => by
                rcases List.mem_or_eq_of_mem_set hr with h | rfl
                · exact Nat.le_succ_of_le (HRK.out r h)
                · simp only [List.length_append, List.length_cons, List.length_nil]
                  exact Nat.succ_le_succ (HRK.out _ (List.getElem_mem hkr))), HK6.out, HS2.out _ _⟩, by simp [intOf]; omega⟩
            · have HR := hide3 (HFE.out her)
              have hde : (de == 0) = false := by simpa using her
              go_wp2
              exact HER.out de _ HR.out her HKC.out.1
    · have hke : k = Lns.length := by omega
      subst hke
      rw [List.drop_length] at hrf
      have HR : Hid (FR = (0, plainR rows)) := by unfold Hid; rw [hrf]; rfl
      clear hrf hrk hkx
      go_wp2
      exact HOK.out rows _ hrl HKX.out HR.out
end Go.Proofs.YtjfbgiajjkjghaaGreatDoor
namespace Go.Proofs.YtjfbgiajjkjghaaGreatDoor
open Go.RowKit
set_option maxRecDepth 100000

/-- A manifest's variable that may be written. -/
def BxMF (w : World) (N : Nat) (v1 v2 v3 v4 : Value) : Prop := BxM w N v1 v2 v3 v4 ∧ ∀ i, i < 4 → w.frozen? ⟨N, i, none⟩ = false
theorem keepBxMF (N : Nat) (v1 v2 v3 v4 : Value) : KeepP fun w1 => BxMF w1 N v1 v2 v3 v4 := fun _ _ h hb =>
  ⟨keepBxM _ _ _ _ _ _ _ h.1 hb, fun i hi => (hb.frozen (p := ⟨N, i, none⟩) h.1.2.2.2.2).trans (h.2 i hi)⟩
theorem BxMF.new {w : World} {N : Nat} (hN : w.heap.size = N) (v1 v2 v3 v4 : Value) : BxMF (w.alloc (.cells #[v1, v2, v3, v4] 24)) N v1 v2 v3 v4 := by
  refine ⟨BxM.new hN _ _ _ _, fun i hi => ?_⟩
  subst hN
  simp
theorem BxMF.of {w w' : World} {N : Nat} {v1 v2 v3 v4 : Value} (h : BxMF w N v1 v2 v3 v4) (hk : w'.heap[N]? = w.heap[N]?) (hs : w.heap.size ≤ w'.heap.size) : BxMF w' N v1 v2 v3 v4 := by
  have q : ∀ i, w'.cell? ⟨N, i, none⟩ = w.cell? ⟨N, i, none⟩ := fun i => World.cell?_of_block (a := ⟨N, i, none⟩) hk
  obtain ⟨⟨h0, h1, h2, h3, h4⟩, hf⟩ := h
  exact ⟨⟨by rw [q]; exact h0, by rw [q]; exact h1, by rw [q]; exact h2, by rw [q]; exact h3, Nat.lt_of_lt_of_le h4 hs⟩, fun i hi => (World.frozen?_of_block (a := ⟨N, i, none⟩) hk).trans (hf i hi)⟩
theorem set_farM {w : World} {N i j : Nat} {u x : Value} (h : i ≠ j) (hx : w.cell? ⟨N, j, none⟩ = some x) : (w.setCell ⟨N, i, none⟩ u).cell? ⟨N, j, none⟩ = some x := (World.cell?_setCell_other _ _ _ _ (fun e => by cases e; exact h rfl)).trans hx
theorem set4 {w : World} {N : Nat} {x0 x1 x2 x3 : Value} (j0 : w.cell? ⟨N, 0, none⟩ = some x0) (j1 : w.cell? ⟨N, 1, none⟩ = some x1) (j2 : w.cell? ⟨N, 2, none⟩ = some x2) (j3 : w.cell? ⟨N, 3, none⟩ = some x3) (u0 u1 u2 u3 : Value) :
    ((((w.setCell ⟨N, 0, none⟩ u0).setCell ⟨N, 1, none⟩ u1).setCell ⟨N, 2, none⟩ u2).setCell ⟨N, 3, none⟩ u3).cell? ⟨N, 0, none⟩ = some u0 ∧ ((((w.setCell ⟨N, 0, none⟩ u0).setCell ⟨N, 1, none⟩ u1).setCell ⟨N, 2, none⟩ u2).setCell ⟨N, 3, none⟩ u3).cell? ⟨N, 1, none⟩ = some u1 ∧ ((((w.setCell ⟨N, 0, none⟩ u0).setCell ⟨N, 1, none⟩ u1).setCell ⟨N, 2, none⟩ u2).setCell ⟨N, 3, none⟩ u3).cell? ⟨N, 2, none⟩ = some u2 ∧ ((((w.setCell ⟨N, 0, none⟩ u0).setCell ⟨N, 1, none⟩ u1).setCell ⟨N, 2, none⟩ u2).setCell ⟨N, 3, none⟩ u3).cell? ⟨N, 3, none⟩ = some u3 := by
  exact ⟨set_farM (by decide) (set_farM (by decide) (set_farM (by decide) (World.cell?_setCell_same _ _ _ (j0)))), set_farM (by decide) (set_farM (by decide) (World.cell?_setCell_same _ _ _ (set_farM (by decide) (j1)))), set_farM (by decide) (World.cell?_setCell_same _ _ _ (set_farM (by decide) (set_farM (by decide) (j2)))), World.cell?_setCell_same _ _ _ (set_farM (by decide) (set_farM (by decide) (set_farM (by decide) (j3))))⟩
theorem below_set4 {w w' : World} {N B : Nat} {u0 u1 u2 u3 : Value} (hN : B ≤ N) (h : Below B w w') : Below B w ((((w'.setCell ⟨N, 0, none⟩ u0).setCell ⟨N, 1, none⟩ u1).setCell ⟨N, 2, none⟩ u2).setCell ⟨N, 3, none⟩ u3) :=
  ((((h.setCell (p := ⟨N, 0, none⟩) hN _).setCell (p := ⟨N, 1, none⟩) hN _).setCell (p := ⟨N, 2, none⟩) hN _).setCell (p := ⟨N, 3, none⟩) hN _)
theorem heap4 {w : World} {N g : Nat} {u0 u1 u2 u3 : Value} (h : g ≠ N) : ((((w.setCell ⟨N, 0, none⟩ u0).setCell ⟨N, 1, none⟩ u1).setCell ⟨N, 2, none⟩ u2).setCell ⟨N, 3, none⟩ u3).heap[g]? = w.heap[g]? :=
  (Below.heap_setCell _ _ _ _ h).trans ((Below.heap_setCell _ _ _ _ h).trans ((Below.heap_setCell _ _ _ _ h).trans (Below.heap_setCell _ _ _ _ h)))
theorem BxM.set4 {w : World} {N : Nat} {x1 x2 x3 x4 : Value} (h : BxM w N x1 x2 x3 x4) (u0 u1 u2 u3 : Value) : BxM ((((w.setCell ⟨N, 0, none⟩ u0).setCell ⟨N, 1, none⟩ u1).setCell ⟨N, 2, none⟩ u2).setCell ⟨N, 3, none⟩ u3) N u0 u1 u2 u3 := by
  obtain ⟨j0, j1, j2, j3, j4⟩ := h
  obtain ⟨a, b, c, d⟩ := Go.Proofs.YtjfbgiajjkjghaaGreatDoor.set4 j0 j1 j2 j3 u0 u1 u2 u3
  exact ⟨a, b, c, d, by simpa using j4⟩

/-- The words of a manifest's lists. -/
def mfW : List Sc.Bs := [[110, 101, 101, 100, 115], [100, 101, 118], [108, 105, 107, 101, 115], [112, 105, 110, 115]]
/-- What readLines answers. -/
def linesME : List (List Sc.Bs) → Int
  | [] => 22
  | h :: r => if h = [[112, 114, 111, 106, 101, 99, 116]] then (readF mfW 0 [[], [], [], []] r).1 else 22
def linesMP : List (List Sc.Bs) → Mn
  | [] => ⟨[], [], [], []⟩
  | _ :: r => ⟨(readF mfW 0 [[], [], [], []] r).2.getD 0 [], (readF mfW 0 [[], [], [], []] r).2.getD 1 [], (readF mfW 0 [[], [], [], []] r).2.getD 2 [], (readF mfW 0 [[], [], [], []] r).2.getD 3 []⟩

theorem OwnD.ofM {w w' : World} {B : Nat} {v : Value} {ps : List (Dp × Value)} (h : OwnD w B v ps) (hk : ∀ g, B ≤ g → w'.heap[g]? = w.heap[g]?) : OwnD w' B v ps :=
  ⟨own_of h.1 fun g hg => hk g (h.1.lt g hg).1, fun p hp => (h.2 p hp).of_block fun g hg => hk g ((h.2 p hp).lt hg).2⟩
/-- A manifest's lists, of one's own. -/
def OwnM (w : World) (B : Nat) (P : Mn) (v1 v2 v3 v4 : Value) : Prop := ∃ q1 q2 q3 q4, (OwnD w B v1 q1 ∧ q1.map (·.1) = P.d) ∧ (OwnD w B v2 q2 ∧ q2.map (·.1) = P.v) ∧ (OwnD w B v3 q3 ∧ q3.map (·.1) = P.o) ∧ (OwnD w B v4 q4 ∧ q4.map (·.1) = P.p)
theorem OwnM.below {w w' : World} {B : Nat} {P : Mn} {v1 v2 v3 v4 : Value} (h : OwnM w B P v1 v2 v3 v4) (hb : Below w.heap.size w w') : OwnM w' B P v1 v2 v3 v4 := by
  obtain ⟨q1, q2, q3, q4, h1, h2, h3, h4⟩ := h
  exact ⟨q1, q2, q3, q4, ⟨h1.1.below hb, h1.2⟩, ⟨h2.1.below hb, h2.2⟩, ⟨h3.1.below hb, h3.2⟩, h4.1.below hb, h4.2⟩
theorem OwnM.base {w : World} {B C : Nat} {P : Mn} {v1 v2 v3 v4 : Value} (h : OwnM w B P v1 v2 v3 v4) (hc : C ≤ B) : OwnM w C P v1 v2 v3 v4 := by
  obtain ⟨q1, q2, q3, q4, h1, h2, h3, h4⟩ := h
  exact ⟨q1, q2, q3, q4, ⟨h1.1.base hc, h1.2⟩, ⟨h2.1.base hc, h2.2⟩, ⟨h3.1.base hc, h3.2⟩, h4.1.base hc, h4.2⟩
theorem OwnM.of {w w' : World} {B : Nat} {P : Mn} {v1 v2 v3 v4 : Value} (h : OwnM w B P v1 v2 v3 v4) (hk : ∀ g, B ≤ g → w'.heap[g]? = w.heap[g]?) : OwnM w' B P v1 v2 v3 v4 := by
  obtain ⟨q1, q2, q3, q4, h1, h2, h3, h4⟩ := h
  exact ⟨q1, q2, q3, q4, ⟨h1.1.ofM hk, h1.2⟩, ⟨h2.1.ofM hk, h2.2⟩, ⟨h3.1.ofM hk, h3.2⟩, h4.1.ofM hk, h4.2⟩
theorem OwnM.at {w : World} {B : Nat} {P : Mn} {v1 v2 v3 v4 : Value} (h : OwnM w B P v1 v2 v3 v4) : MnAt w P v1 v2 v3 v4 := by
  obtain ⟨q1, q2, q3, q4, h1, h2, h3, h4⟩ := h
  exact ⟨h1.2 ▸ h1.1.at, h2.2 ▸ h2.1.at, h3.2 ▸ h3.1.at, h4.2 ▸ h4.1.at⟩
theorem keepOwnM (B : Nat) (P : Mn) (v1 v2 v3 v4 : Value) : KeepP fun w1 => OwnM w1 B P v1 v2 v3 v4 := fun _ _ h hb => h.below hb

/-- A manifest that is told, beside an error's number. -/
def MkQ (w : World) (er : Int) (P : Mn) (e : Ending) (w' : World) : Prop := ∃ v1 v2 v3 v4, e = .returned (.tuple #[.agg #[v1, v2, v3, v4], .int .i64 er]) ∧ Below w.heap.size w w' ∧ (er = 0 → OwnM w' w.heap.size P v1 v2 v3 v4) ∧ (er ≠ 0 → v1 = .slice none 0 0 ∧ v2 = .slice none 0 0 ∧ v3 = .slice none 0 0 ∧ v4 = .slice none 0 0)
theorem MkQ.err {w w' : World} {er er' : Int} {P : Mn} (h0 : er = er') (h : er' ≠ 0) (hb : Below w.heap.size w w') : MkQ w er P (.returned (.tuple #[.agg #[.slice none 0 0, .slice none 0 0, .slice none 0 0, .slice none 0 0], .int .i64 er'])) w' := by
  subst h0
  exact ⟨_, _, _, _, rfl, hb, fun e => absurd e h, fun _ => ⟨rfl, rfl, rfl, rfl⟩⟩
theorem MkQ.sl {w w' : World} {er : Int} {P : Mn} {e : Ending} (h : MkQ w er P e w') : ∃ a1 k1 c1 a2 k2 c2 a3 k3 c3 a4 k4 c4, e = .returned (.tuple #[.agg #[.slice a1 k1 c1, .slice a2 k2 c2, .slice a3 k3 c3, .slice a4 k4 c4], .int .i64 er]) ∧ Below w.heap.size w w' ∧ (er = 0 → OwnM w' w.heap.size P (.slice a1 k1 c1) (.slice a2 k2 c2) (.slice a3 k3 c3) (.slice a4 k4 c4) ∧ k1 = P.d.length ∧ k2 = P.v.length ∧ k3 = P.o.length ∧ k4 = P.p.length) ∧ (er ≠ 0 → k1 = 0 ∧ k2 = 0 ∧ k3 = 0 ∧ k4 = 0) := by
  obtain ⟨v1, v2, v3, v4, h1, h2, h3, h4⟩ := h
  by_cases h0 : er = 0
  · obtain ⟨q1, q2, q3, q4, o1, o2, o3, o4⟩ := h3 h0
    have ho := h3 h0
    obtain ⟨a1, c1, e1⟩ := o1.1.len
    obtain ⟨a2, c2, e2⟩ := o2.1.len
    obtain ⟨a3, c3, e3⟩ := o3.1.len
    obtain ⟨a4, c4, e4⟩ := o4.1.len
    subst e1 e2 e3 e4
    exact ⟨_, _, _, _, _, _, _, _, _, _, _, _, h1, h2, fun _ => ⟨ho, by rw [← o1.2]; simp, by rw [← o2.2]; simp, by rw [← o3.2]; simp, by rw [← o4.2]; simp⟩, fun h => absurd h0 h⟩
  · obtain ⟨e1, e2, e3, e4⟩ := h4 h0
    subst e1 e2 e3 e4
    exact ⟨_, _, _, _, _, _, _, _, _, _, _, _, h1, h2, fun h => absurd h h0, fun _ => ⟨rfl, rfl, rfl, rfl⟩⟩

theorem rows4 {rows : List (Value × List (Dp × Value))} {R : List (List Dp)} (h : plainR rows = R) (hl : rows.length = 4) {w : World} {B N : Nat} (hr : RD w B N rows) : ∃ a1 k1 c1 a2 k2 c2 a3 k3 c3 a4 k4 c4, (w.cell? ⟨N, 0, none⟩ = some (.slice a1 k1 c1) ∧ w.cell? ⟨N, 1, none⟩ = some (.slice a2 k2 c2) ∧ w.cell? ⟨N, 2, none⟩ = some (.slice a3 k3 c3) ∧ w.cell? ⟨N, 3, none⟩ = some (.slice a4 k4 c4)) ∧ OwnM w B ⟨R.getD 0 [], R.getD 1 [], R.getD 2 [], R.getD 3 []⟩ (.slice a1 k1 c1) (.slice a2 k2 c2) (.slice a3 k3 c3) (.slice a4 k4 c4) := by
  subst h
  have z0 := hr.cell 0 (by omega)
  have z1 := hr.cell 1 (by omega)
  have z2 := hr.cell 2 (by omega)
  have z3 := hr.cell 3 (by omega)
  have o0 := hr.2.1 _ (List.getElem_mem (show 0 < rows.length by omega))
  have o1 := hr.2.1 _ (List.getElem_mem (show 1 < rows.length by omega))
  have o2 := hr.2.1 _ (List.getElem_mem (show 2 < rows.length by omega))
  have o3 := hr.2.1 _ (List.getElem_mem (show 3 < rows.length by omega))
  obtain ⟨a1, c1, e1⟩ := o0.len
  obtain ⟨a2, c2, e2⟩ := o1.len
  obtain ⟨a3, c3, e3⟩ := o2.len
  obtain ⟨a4, c4, e4⟩ := o3.len
  rw [e1] at z0 o0
  rw [e2] at z1 o1
  rw [e3] at z2 o2
  rw [e4] at z3 o3
  exact ⟨a1, _, c1, a2, _, c2, a3, _, c3, a4, _, c4, ⟨z0, z1, z2, z3⟩, _, _, _, _, ⟨o0, (plainR_get (show 0 < rows.length by omega)).symm⟩, ⟨o1, (plainR_get (show 1 < rows.length by omega)).symm⟩, ⟨o2, (plainR_get (show 2 < rows.length by omega)).symm⟩, o3, (plainR_get (show 3 < rows.length by omega)).symm⟩
theorem readF_lenM {X : List Sc.Bs} : ∀ (Lns : List (List Sc.Bs)) (a : Nat) (acc : List (List Dp)), (readF X a acc Lns).1 = 0 → (readF X a acc Lns).2.length = acc.length
  | [], _, _, _ => rfl
  | ln :: r, a, acc, h => by
    unfold readF at h ⊢
    split at h
    · cases h
    · split at h
      · cases h
      · split at h
        · rename_i h1 h2 h3
          rw [if_neg h1, if_neg h2, if_pos h3]
          rw [readF_lenM r _ _ h, List.length_set]
        · rename_i h1 h2 h3
          exact absurd h h3
end Go.Proofs.YtjfbgiajjkjghaaGreatDoor
namespace Go.Proofs.YtjfbgiajjkjghaaGreatDoor
open Go.RowKit
set_option maxRecDepth 100000

theorem ownT_words {w : World} {B : Nat} {v : Value} {ws : List Sc.Bs} (h : OwnT w B v (ws.map Sc.ba)) : Sc.WordsAt w v ws := by
  refine Sc.OwnW.at (B := B) ?_
  unfold Sc.OwnW Sc.strs
  unfold OwnT at h
  rw [List.length_map, List.map_map] at h
  exact h

set_option maxHeartbeats 3200000 in
theorem words_mf {g : Nat} {w : World} (hg : w.heap[g]? = some (listsO (.slice none 0 0) (.slice none 0 0) (.slice none 0 0) (.slice none 0 0))) :
    Calls Tryz.prog 43 #[.slice (some ⟨g, 0, none⟩) 4 4] w fun e w' => ∃ v, e = .returned v ∧ Sc.WordsAt w' v mfW ∧ Below w.heap.size w w' := by
  have HG : Hid (∀ w1, Below w.heap.size w w1 → w1.heap[g]? = some (listsO (.slice none 0 0) (.slice none 0 0) (.slice none 0 0) (.slice none 0 0))) := fun w1 h => (h.block g (Array.getElem?_eq_some_iff.1 hg).1).trans hg
  clear hg
  go_enter Tryz.func43, Tryz.ntmps43
  go_wp2
  go_loopw [3, 8] (fun u i wr => ∃ k : Nat, k ≤ 4 ∧ i = .int .i64 k ∧ Below w.heap.size w wr ∧ OwnT wr w.heap.size u ((mfW.map Sc.ba).take k)) (fun _ i _ => 4 - (intOf i).toNat)
  case atStart => exact ⟨0, Nat.zero_le _, rfl, Below.refl _ _, OwnT.nil _ _⟩
  case round =>
    obtain ⟨k, hk, rfl, hb, how⟩ := hrel
    rcases (show k = 0 ∨ k = 1 ∨ k = 2 ∨ k = 3 ∨ k = 4 by omega) with rfl | rfl | rfl | rfl | rfl
    · have q0 : wr.cell? ⟨g, 0, none⟩ = some (.string ⟨#[110, 101, 101, 100, 115]⟩) := by rw [Lib.cell_of_heap (HG.out wr hb)]; rfl
      have q1 : wr.cell? ⟨g, 1, none⟩ = some (.slice none 0 0) := by rw [Lib.cell_of_heap (HG.out wr hb)]; rfl
      have HK : Hid (Below w.heap.size w (wr.alloc (.cells #[.string ⟨#[110, 101, 101, 100, 115]⟩, .slice none 0 0] 49)) ∧ OwnT (wr.alloc (.cells #[.string ⟨#[110, 101, 101, 100, 115]⟩, .slice none 0 0] 49)) w.heap.size u3 ((mfW.map Sc.ba).take 0)) := ⟨below_then hb (boxB _ _), how.below (boxB _ _)⟩
      clear hb how
      go_wp2_with (at_builtin; refine wp_appT (uo := u3) (ts := (mfW.map Sc.ba).take 0) rfl (.tmp 12) (.tmp 15) rfl rfl HK.out rfl (by simp [go_sem]) (by decide) ?_; intro v3 w3 ok3; have HO3 := hide3 ok3; clear ok3)
      exact ⟨⟨0 + 1, by omega, by go_num, HO3.out.1, HO3.out.2⟩, by simp [intOf]⟩
    · have q0 : wr.cell? ⟨g, 2, none⟩ = some (.string ⟨#[100, 101, 118]⟩) := by rw [Lib.cell_of_heap (HG.out wr hb)]; rfl
      have q1 : wr.cell? ⟨g, 3, none⟩ = some (.slice none 0 0) := by rw [Lib.cell_of_heap (HG.out wr hb)]; rfl
      have HK : Hid (Below w.heap.size w (wr.alloc (.cells #[.string ⟨#[100, 101, 118]⟩, .slice none 0 0] 49)) ∧ OwnT (wr.alloc (.cells #[.string ⟨#[100, 101, 118]⟩, .slice none 0 0] 49)) w.heap.size u3 ((mfW.map Sc.ba).take 1)) := ⟨below_then hb (boxB _ _), how.below (boxB _ _)⟩
      clear hb how
      go_wp2_with (at_builtin; refine wp_appT (uo := u3) (ts := (mfW.map Sc.ba).take 1) rfl (.tmp 12) (.tmp 15) rfl rfl HK.out rfl (by simp [go_sem]) (by decide) ?_; intro v3 w3 ok3; have HO3 := hide3 ok3; clear ok3)
      exact ⟨⟨1 + 1, by omega, by go_num, HO3.out.1, HO3.out.2⟩, by simp [intOf]⟩
    · have q0 : wr.cell? ⟨g, 4, none⟩ = some (.string ⟨#[108, 105, 107, 101, 115]⟩) := by rw [Lib.cell_of_heap (HG.out wr hb)]; rfl
      have q1 : wr.cell? ⟨g, 5, none⟩ = some (.slice none 0 0) := by rw [Lib.cell_of_heap (HG.out wr hb)]; rfl
      have HK : Hid (Below w.heap.size w (wr.alloc (.cells #[.string ⟨#[108, 105, 107, 101, 115]⟩, .slice none 0 0] 49)) ∧ OwnT (wr.alloc (.cells #[.string ⟨#[108, 105, 107, 101, 115]⟩, .slice none 0 0] 49)) w.heap.size u3 ((mfW.map Sc.ba).take 2)) := ⟨below_then hb (boxB _ _), how.below (boxB _ _)⟩
      clear hb how
      go_wp2_with (at_builtin; refine wp_appT (uo := u3) (ts := (mfW.map Sc.ba).take 2) rfl (.tmp 12) (.tmp 15) rfl rfl HK.out rfl (by simp [go_sem]) (by decide) ?_; intro v3 w3 ok3; have HO3 := hide3 ok3; clear ok3)
      exact ⟨⟨2 + 1, by omega, by go_num, HO3.out.1, HO3.out.2⟩, by simp [intOf]⟩
    · have q0 : wr.cell? ⟨g, 6, none⟩ = some (.string ⟨#[112, 105, 110, 115]⟩) := by rw [Lib.cell_of_heap (HG.out wr hb)]; rfl
      have q1 : wr.cell? ⟨g, 7, none⟩ = some (.slice none 0 0) := by rw [Lib.cell_of_heap (HG.out wr hb)]; rfl
      have HK : Hid (Below w.heap.size w (wr.alloc (.cells #[.string ⟨#[112, 105, 110, 115]⟩, .slice none 0 0] 49)) ∧ OwnT (wr.alloc (.cells #[.string ⟨#[112, 105, 110, 115]⟩, .slice none 0 0] 49)) w.heap.size u3 ((mfW.map Sc.ba).take 3)) := ⟨below_then hb (boxB _ _), how.below (boxB _ _)⟩
      clear hb how
      go_wp2_with (at_builtin; refine wp_appT (uo := u3) (ts := (mfW.map Sc.ba).take 3) rfl (.tmp 12) (.tmp 15) rfl rfl HK.out rfl (by simp [go_sem]) (by decide) ?_; intro v3 w3 ok3; have HO3 := hide3 ok3; clear ok3)
      exact ⟨⟨3 + 1, by omega, by go_num, HO3.out.1, HO3.out.2⟩, by simp [intOf]⟩
    · have HO := hide3 (ownT_words (ws := mfW) how)
      have HB := hide3 hb
      clear hb how
      go_wp2
      go_ret
      exact ⟨_, rfl, HO.out, HB.out⟩
end Go.Proofs.YtjfbgiajjkjghaaGreatDoor
