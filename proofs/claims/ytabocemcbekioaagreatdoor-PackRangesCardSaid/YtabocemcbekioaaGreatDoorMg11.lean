/- Rd2, Rd3, Ps4, Ps5, Ps6, laid in one text. -/
import Derived.Deep.RegionLaw
import Derived.Deep.CutRange
import Derived.RegionTactic
import Derived.ChangeAlike
import Derived.Test.YtabocemcbekioaaGreatDoorMg10
namespace Go.Proofs.YtabocemcbekioaaGreatDoor
open Go.RowKit
set_option maxRecDepth 100000

/-- Where a search stands. -/
def idxP (X : List Sc.Bs) (s : Sc.Bs) (k : Nat) : Prop := idxW X s = if idxW (X.drop k) s = -1 then -1 else idxW (X.drop k) s + (k : Int)
theorem idxP_zero (X : List Sc.Bs) (s : Sc.Bs) : idxP X s 0 := by
  unfold idxP
  rw [List.drop_zero]
  split
  · assumption
  · simp
theorem idxW_cons (x : Sc.Bs) (X : List Sc.Bs) (s : Sc.Bs) : idxW (x :: X) s = if s = x then 0 else if idxW X s = -1 then -1 else idxW X s + 1 := rfl
theorem idxP_hit {X : List Sc.Bs} {s : Sc.Bs} {k : Nat} (h : idxP X s k) (hk : k < X.length) (e : s = X[k]) : idxW X s = (k : Int) := by
  unfold idxP at h
  rw [List.drop_eq_getElem_cons hk, idxW_cons, if_pos e] at h
  rw [h, if_neg (by omega)]
  omega
theorem idxP_miss {X : List Sc.Bs} {s : Sc.Bs} {k : Nat} (h : idxP X s k) (hk : k < X.length) (e : s ≠ X[k]) : idxP X s (k + 1) := by
  unfold idxP at h ⊢
  rw [List.drop_eq_getElem_cons hk, idxW_cons, if_neg e] at h
  rw [h]
  have hb := (idxW_lt (X.drop (k + 1)) s).2
  by_cases h1 : idxW (X.drop (k + 1)) s = -1
  · rw [if_pos h1, if_pos h1, if_pos rfl]
  · rw [if_neg h1, if_neg h1, if_neg (by omega)]
    omega
theorem idxP_end {X : List Sc.Bs} {s : Sc.Bs} (h : idxP X s X.length) : idxW X s = -1 := by
  unfold idxP at h
  rw [List.drop_length] at h
  simpa [idxW] using h

set_option maxHeartbeats 1600000 in
theorem Index_any {X : List Sc.Bs} {v : Value} {w : World} (h : Sc.WordsAt w v X) (hl : X.length ≤ 1000000) (s : Sc.Bs) :
    Calls Tryz.prog 80 #[v, .string (Sc.ba s)] w fun e w' => e = .returned (.int .i64 (idxW X s)) ∧ w' = w := by
  obtain ⟨ad, cap, rfl, hc, hs⟩ := h
  have HS := hide3 hs
  clear hs
  have hts := ba_toList s
  have HI0 := hide3 (idxP_zero X s)
  go_enter Tryz.func80, Tryz.ntmps80
  go_wp2_with fail
  go_loopw [8] (fun i wr => ∃ k : Nat, k ≤ X.length ∧ i = .int .i64 k ∧ wr = w ∧ idxP X s k) (fun i _ => X.length - (intOf i).toNat)
  case atStart => exact ⟨0, Nat.zero_le _, rfl, rfl, HI0.out⟩
  case round =>
    obtain ⟨k, hk, rfl, rfl, hip⟩ := hrel
    have HIP := hide3 hip
    clear hip
    by_cases hlt : k < X.length
    · obtain ⟨g, o, rfl, hg, hcs⟩ : ∃ g o, ad = some ⟨g, o, none⟩ ∧ g < wr.heap.size ∧ ∀ i (h : i < X.length), wr.cell? ⟨g, o + i, none⟩ = some (.string (Sc.ba X[i])) := by
        rcases HS.out with h | h
        · rw [h] at hlt; simp at hlt
        · exact h
      have c0 := hcs k hlt
      have htk := ba_toList X[k]
      clear hcs
      by_cases e : s = X[k]
      · have HR := hide3 (idxP_hit HIP.out hlt e)
        have hq : ((Sc.ba s).toList == (Sc.ba X[k]).toList) = true := by rw [e]; simp
        clear hts htk
        go_wp2
        go_ret
        exact ⟨by rw [HR.out]; rfl, rfl⟩
      · have HR := hide3 (idxP_miss HIP.out hlt e)
        have hq : ((Sc.ba s).toList == (Sc.ba X[k]).toList) = false := by rw [hts, htk]; simpa using e
        clear hts htk
        go_wp2
        exact ⟨⟨k + 1, by omega, by go_num, by first | rfl | trivial, HR.out⟩, by simp [intOf]; omega⟩
    · obtain rfl : k = X.length := by omega
      have HR := hide3 (idxP_end HIP.out)
      go_wp2
      go_ret
      exact ⟨by rw [HR.out]; rfl, rfl⟩

/-- What the walk of Read keeps. -/
def KX (w : World) (N : Nat) (rows : List (Value × List (Dp × Value))) (w1 : World) : Prop := Below w.heap.size w w1 ∧ RD w1 w.heap.size N rows
theorem keepKX (w : World) (N : Nat) (rows : List (Value × List (Dp × Value))) : KeepP (KX w N rows) := (keepBelow w).and (keepRD _ _ _)
theorem infoDep : (Tryz.prog.info? 38).map (fun i => (i.zero, i.size, i.bytes)) = some (some (.agg #[.string ⟨#[]⟩, .slice none 0 0]), 2, 40) := by kernel_rfl
theorem infoDeps : (Tryz.prog.info? 24).map (fun i => (i.zero, i.size, i.bytes)) = some (some (.slice none 0 0), 1, 24) := by kernel_rfl

/-- What an append to list k leaves. -/
def AppK (w : World) (N : Nat) (rows : List (Value × List (Dp × Value))) (k : Nat) (d : Dp) (u v1 : Value) (w1 : World) : Prop :=
  KX w N (rows.set k (v1, rows[k]!.2 ++ [(d, u)])) (w1.setCell ⟨N, k, none⟩ v1) ∧ w1.cell? ⟨N, k, none⟩ = some rows[k]!.1 ∧ w1.frozen? ⟨N, k, none⟩ = false ∧ ∃ ad n cap, v1 = .slice ad n cap

/-- A dependency is put behind a list, in a region that draws its order. -/
theorem step_appD {w wx : World} {N : Nat} {rows : List (Value × List (Dp × Value))} {k : Nat} {d : Dp} {u : Value} {ops : Array Oper} {o : Oper} {f : Act} {K : Act → World → Prop} {Q : Exit → Act → World → Prop} {E : Prop} (hgd : o.guard = none) (s t : Operand)
    (ho : o.op = .call { callee := .builtin .append, args := #[s, t], argTypes := #[24, 24] }) {vk : Value} (hs : f.eval s = vk) (hk : k < rows.length) (hvk : rows[k]!.1 = vk)
    (hK : KX w N rows wx) (hu : OwnS wx w.heap.size u d.rg) {nm : ByteArray} (hnm : d.nm = nm) {M : Nat} (hM : wx.heap.size = M) (hx : f.eval t = .slice (some ⟨M, 0, none⟩) 1 1) (hlen : rows[k]!.2.length ≤ 1000000)
    (h : ∀ v1 w1, AppK w N rows k d u v1 w1 → K (f.put o.dst v1) w1) :
    if Region.wanted o (yielded ops f.tmps) = true then Oper.wp Tryz.prog o f (wx.alloc (.cells #[.string nm, u] 38)) K Q else E := by
  have hw : Region.wanted o (yielded ops f.tmps) = true := by simp [Region.wanted, hgd]
  rw [if_pos hw]
  subst hM hnm
  have erk : rows[k]! = rows[k] := getElem!_pos rows k hk
  rw [erk] at hvk hlen
  obtain ⟨i0, hi, hz0, hz1, hz2⟩ := Sc.info_parts infoDep
  have hKa := keepKX w N rows _ _ hK (boxB wx (.cells #[.string d.nm, u] 38))
  have hua := hu.below (boxB wx (.cells #[.string d.nm, u] 38))
  have hrow := hKa.2.2.1 _ (List.getElem_mem hk)
  have hsz : (wx.alloc (.cells #[.string d.nm, u] 38)).heap.size = wx.heap.size + 1 := by simp
  have hwx := hK.1.size
  obtain ⟨au, lu, cu, hus⟩ : ∃ au lu cu, u = .slice au lu cu := by
    obtain ⟨ad, cap, rfl, _⟩ := hu.sp
    exact ⟨_, _, _, rfl⟩
  have hown := hrow.1
  rw [hvk] at hown
  obtain ⟨v1, w1, hr, hown1, hg1, _, hat⟩ := run_append_own_at (P := Tryz.prog) (wx.alloc (.cells #[.string d.nm, u] 38)) w.heap.size 24 o.type 38 i0 _ 2 40 Tryz.underlying24 hi hz0 hz1 hz2 rfl (by decide) vk _ _ hown ⟨wx.heap.size, 0, none⟩ 1 1 [.string d.nm, u] rfl
    (World.news_of_block (cs := #[.string d.nm, u]) (t := 38) (fr := (0, 0)) (by show (wx.heap.push _)[wx.heap.size]? = _; rw [Array.getElem?_push, if_pos rfl])) (by rw [hus]; simp [Value.oneCell']) (by unfold maxLen; omega) (by omega) (by omega)
  unfold Oper.wp execOp
  simp only [ho, resolve, invoke, builtin, Sem.run_bind, Sem.run_pure, Result.andThen_ok, List.map_toArray, List.map_cons, List.map_nil, hs, hx, hr]
  rw [← hvk] at hg1 hat
  have hN := hKa.2.size
  have hNe : some N ≠ rows[k].1.ownBlock := fun e => own_ne hKa.2.1 hrow.1 (by decide) rfl e.symm
  have hblk := hg1.block N hN.2 hNe
  refine h v1 w1 ⟨⟨?_, ?_⟩, ?_, ?_, ?_⟩
  · exact (hKa.1.grown hg1 (by omega) (fun q hq => (hrow.1.lt q hq).1)).setCell (p := ⟨N, k, none⟩) hN.1 _
  · rw [erk]
    exact hKa.2.app k hk hua hown1 hg1 hat
  · rw [erk, World.cell?_of_block (a := ⟨N, k, none⟩) hblk]
    exact hKa.2.cell k hk
  · rw [World.frozen?_of_block (a := ⟨N, k, none⟩) hblk]
    exact hKa.2.frozen k
  · rcases hown1.2 with ⟨e, _⟩ | ⟨g, cap, cur, e, _⟩
    · exact ⟨_, _, _, e⟩
    · exact ⟨_, _, _, e⟩
end Go.Proofs.YtabocemcbekioaaGreatDoor
namespace Go.Proofs.YtabocemcbekioaaGreatDoor
open Go.RowKit
set_option maxRecDepth 100000

/-- Lines that are not too long. -/
def ShortLn (ln : List Sc.Bs) : Prop := ln.length ≤ 5000 ∧ (Lib.join (ln.drop 2) [32]).length ≤ 5000
/-- What Read answers, in memory. -/
def ReadQ (w : World) (R : Int × List (List Dp)) (e : Ending) (w' : World) : Prop := ∃ v, e = .returned (.tuple #[v, .int .i64 R.1]) ∧ Below w.heap.size w w' ∧ (R.1 = 0 → ∃ N rows, v = .slice (some ⟨N, 0, none⟩) rows.length rows.length ∧ RD w' w.heap.size N rows ∧ plainR rows = R.2) ∧ (R.1 ≠ 0 → v = .slice none 0 0)
theorem ReadQ.err {w w' : World} {R : Int × List (List Dp)} {er : Int} (hR : R.1 = er) (h0 : er ≠ 0) (hb : Below w.heap.size w w') : ReadQ w R (.returned (.tuple #[.slice none 0 0, .int .i64 er])) w' := by
  subst hR
  exact ⟨_, rfl, hb, fun h => absurd h h0, fun _ => rfl⟩
/-- Where the loop of Read stands. -/
def RelR (w : World) (X : List Sc.Bs) (Lns : List (List Sc.Bs)) (va vi : Value) (wr : World) : Prop :=
  ∃ (k a : Nat) (rows : List (Value × List (Dp × Value))), k ≤ Lns.length ∧ vi = .int .i64 k ∧ va = .int .i64 a ∧ rows.length = X.length ∧ (∀ r ∈ rows, r.2.length ≤ k) ∧ KX w w.heap.size rows wr ∧ readF X 0 (List.replicate X.length []) Lns = readF X a (plainR rows) (Lns.drop k)

theorem plainR_get {rows : List (Value × List (Dp × Value))} {k : Nat} (hk : k < rows.length) : (plainR rows).getD k [] = rows[k].2.map (·.1) := by
  unfold plainR
  rw [List.getD_eq_getElem?_getD, List.getElem?_map, List.getElem?_eq_getElem hk]
  rfl
theorem plainR_set {rows : List (Value × List (Dp × Value))} {k : Nat} (hk : k < rows.length) (v : Value) (d : Dp) (u : Value) : plainR (rows.set k (v, rows[k].2 ++ [(d, u)])) = (plainR rows).set k ((plainR rows).getD k [] ++ [d]) := by
  rw [plainR_get hk]
  unfold plainR
  rw [List.map_set]
  simp
theorem readF_short {X : List Sc.Bs} {a : Nat} {acc : List (List Dp)} {ln : List Sc.Bs} {r : List (List Sc.Bs)} (h : ln.length < 3) : (readF X a acc (ln :: r)).1 = 22 := by
  unfold readF
  rw [if_pos h]
theorem readF_word {X : List Sc.Bs} {a : Nat} {acc : List (List Dp)} {ln : List Sc.Bs} {r : List (List Sc.Bs)} (h : ¬ ln.length < 3) (h2 : idxW X (ln.getD 0 []) < (a : Int)) : (readF X a acc (ln :: r)).1 = 22 := by
  unfold readF
  rw [if_neg h, if_pos h2]
theorem readF_err {X : List Sc.Bs} {a : Nat} {acc : List (List Dp)} {ln : List Sc.Bs} {r : List (List Sc.Bs)} {k : Nat} (h : ¬ ln.length < 3) (h2 : idxW X (ln.getD 0 []) = (k : Int)) (h3 : a ≤ k) {er : Int} (h4 : depE (lastN (acc.getD k [])) (Sc.ba (ln.getD 1 [])) (ln.drop 2) = er) (h0 : er ≠ 0) : (readF X a acc (ln :: r)).1 = er := by
  unfold readF
  rw [if_neg h, h2, if_neg (by omega), Int.toNat_natCast, h4, if_neg h0]
theorem readF_step {X : List Sc.Bs} {a : Nat} {acc : List (List Dp)} {ln : List Sc.Bs} {r : List (List Sc.Bs)} {k : Nat} (h : ¬ ln.length < 3) (h2 : idxW X (ln.getD 0 []) = (k : Int)) (h3 : a ≤ k) (h4 : depE (lastN (acc.getD k [])) (Sc.ba (ln.getD 1 [])) (ln.drop 2) = 0) : readF X a acc (ln :: r) = readF X k (acc.set k (acc.getD k [] ++ [lineDp ln])) r := by
  conv => lhs; unfold readF
  rw [if_neg h, h2, if_neg (by omega), Int.toNat_natCast, if_pos h4]

theorem far2 {w : World} {N : Nat} {x y v : Value} {a : Addr} (h : a.block ≠ N) (hc : w.cell? a = some v) : ((w.setCell ⟨N, 0, none⟩ x).setCell ⟨N, 1, none⟩ y).cell? a = some v :=
  (World.cell?_setCell_other _ _ _ _ (fun e => h (by rw [← e]))).trans ((World.cell?_setCell_other _ _ _ _ (fun e => h (by rw [← e]))).trans hc)

set_option maxHeartbeats 6400000 in
theorem Read_any {X : List Sc.Bs} {Lns : List (List Sc.Bs)} {vl vx : Value} {w : World} (hl : Sc.LinesAt w vl Lns) (hx : Sc.WordsAt w vx X) (hX : X.length ≤ 16) (hn : Lns.length ≤ 5000) (hs : ∀ ln ∈ Lns, ShortLn ln) (he : Env w) (hf : FL w) :
    Calls Tryz.prog 58 #[vl, vx] w (ReadQ w (readF X 0 (List.replicate X.length []) Lns)) := by
  have HIX : Hid (∀ w1 s, Below w.heap.size w w1 → Calls Tryz.prog 80 #[vx, .string (Sc.ba s)] w1 fun e w' => e = .returned (.int .i64 (idxW X s)) ∧ w' = w1) := fun w1 s hb => Index_any (hx.below hb) (by omega) s
  have HIL := hide3 (idxW_lt X)
  have HRD : Hid (∀ w1 (n : ByteArray) vw va (ws : List Sc.Bs) (A : List Dp), Below w.heap.size w w1 → Sc.WordsAt w1 vw ws → ws ≠ [] → ws.length ≤ 5000 → (Lib.join ws [32]).length ≤ 5000 → DepsAt w1 va A → A.length ≤ 10000 → Calls Tryz.prog 81 #[.string n, vw, va] w1 (DepQ w1 n ws (depE (lastN A) n ws))) := fun w1 n vw va ws A hb h1 h2 h3 h4 h5 h6 => readDep_any h1 h2 (by omega) (by omega) h5 (by omega) (he.below hb) (hf.below hb)
  have HLN : Hid (∀ w1, Below w.heap.size w w1 → Sc.LinesAt w1 vl Lns) := fun w1 hb => hl.below hb
  have HS := hide3 hs
  have HER : Hid (∀ er w', (readF X 0 (List.replicate X.length []) Lns).1 = er → er ≠ 0 → Below w.heap.size w w' → ReadQ w (readF X 0 (List.replicate X.length []) Lns) (.returned (.tuple #[.slice none 0 0, .int .i64 er])) w') := fun er w' h1 h2 h3 => ReadQ.err h1 h2 h3
  have HOK : Hid (∀ (rows : List (Value × List (Dp × Value))) w', rows.length = X.length → KX w w.heap.size rows w' → readF X 0 (List.replicate X.length []) Lns = (0, plainR rows) → ReadQ w (readF X 0 (List.replicate X.length []) Lns) (.returned (.tuple #[.slice (some ⟨w.heap.size, 0, none⟩) X.length X.length, .int .i64 0])) w') := fun rows w' h0 h1 h2 => by
    rw [h2]
    exact ⟨_, rfl, h1.1, fun _ => ⟨w.heap.size, rows, by rw [h0], h1.2, rfl⟩, fun h => absurd rfl h⟩
  obtain ⟨adl, capl, rfl, hcl, _⟩ := hl
  obtain ⟨adx, capx, rfl, hcx, _⟩ := hx
  obtain ⟨i0, hi, hz0, hz1, hz2⟩ := Sc.info_parts infoDeps
  clear hs he hf
  have HRF : Hid (readF X 0 (List.replicate X.length []) Lns = readF X 0 (plainR (List.replicate X.length (.slice none 0 0, []))) (Lns.drop 0)) := by
    unfold Hid plainR
    rw [List.map_replicate, List.drop_zero]
    rfl
  generalize hFR : readF X 0 (List.replicate X.length []) Lns = FR at *
  clear hFR
  generalize hQ : ReadQ w FR = RQ at *
  clear hQ
  go_enter Tryz.func58, Tryz.ntmps58
  go_wp2_with (at_make; refine wpList_make_full _ rfl _ _ 59 rfl w.heap.size 24 i0 _ 1 Tryz.underlying59 hi hz0 hz1 .i64 .i64 _ _ X.length rfl rfl rfl rfl (by rw [hz2]; omega) (by unfold maxLen; omega) (Nat.le_refl _) ?_; intro w1 hown1 hg1; have HK1 : Hid (KX w w.heap.size (List.replicate X.length (.slice none 0 0, [])) w1) := ⟨(Below.refl _ _).grown hg1 (Nat.le_refl _) (fun q hq => by cases hq), RD.start (by rw [Nat.mul_one] at hown1; rw [show (Value.slice none 0 0).cells = #[Value.slice none 0 0] from rfl, toList_madeCells_one] at hown1; exact hown1)⟩; clear hown1 hg1)
  go_loopw [7, 18] (fun va vi wr => ∃ (k a : Nat) (rows : List (Value × List (Dp × Value))), k ≤ Lns.length ∧ vi = .int .i64 k ∧ va = .int .i64 a ∧ rows.length = X.length ∧ (∀ r ∈ rows, r.2.length ≤ k) ∧ KX w w.heap.size rows wr ∧ FR = readF X a (plainR rows) (Lns.drop k)) (fun _ i _ => Lns.length - (intOf i).toNat)
  case atStart => exact ⟨0, 0, _, Nat.zero_le _, rfl, rfl, List.length_replicate .., (fun r hr => by obtain ⟨_, rfl⟩ := List.mem_replicate.1 hr; exact Nat.le_refl _), HK1.out, HRF.out⟩
  case round =>
    clear HK1 HRF
    obtain ⟨k, a, rows, hk, rfl, rfl, hrl, hrk, hkx, hrf⟩ := hrel
    have HKX := hide3 hkx
    have HRK := hide3 hrk
    by_cases hlt : k < Lns.length
    · obtain ⟨ad2, cap2, e2, _, hcs⟩ := HLN.out wr hkx.1
      cases e2
      obtain ⟨gl, ol, rfl, hgl, hcs⟩ : ∃ g o, adl = some ⟨g, o, none⟩ ∧ g < wr.heap.size ∧ ∀ i (h : i < Lns.length), ∃ u, wr.cell? ⟨g, o + i, none⟩ = some u ∧ Sc.WordsAt wr u Lns[i] := by
        rcases hcs with h | h
        · rw [h] at hlt; simp at hlt
        · exact h
      obtain ⟨u, cl, hwu⟩ := hcs k hlt
      have hsl := HS.out _ (List.getElem_mem hlt)
      rw [List.drop_eq_getElem_cons hlt] at hrf
      clear hcs hrk hkx
      obtain ⟨adu, capu, rfl, hcu, hwc⟩ := hwu
      generalize Lns[k] = ln at *
      by_cases h3 : ln.length < 3
      · have HR : Hid (FR.1 = 22) := by unfold Hid; rw [hrf]; exact readF_short h3
        have h3i : decide ((ln.length : Int) < 3) = true := decide_eq_true (by omega)
        clear hrf hwc hsl
        go_wp2
        exact HER.out 22 _ HR.out (by decide) HKX.out.1
      · obtain ⟨p0, p1, rest, rfl⟩ : ∃ p0 p1 rest, ln = p0 :: p1 :: rest := by
          match ln, h3 with
          | [], h => exact absurd (by simp) h
          | [_], h => exact absurd (by simp) h
          | p0 :: p1 :: rest, _ => exact ⟨_, _, _, rfl⟩
        have hrne : rest ≠ [] := by
          intro e
          subst e
          exact h3 (by simp)
        obtain ⟨gw, ow, rfl, hgw, hwc⟩ : ∃ g o, adu = some ⟨g, o, none⟩ ∧ g < wr.heap.size ∧ ∀ i (h : i < (p0 :: p1 :: rest).length), wr.cell? ⟨g, o + i, none⟩ = some (.string (Sc.ba (p0 :: p1 :: rest)[i])) := by
          rcases hwc with h | h
          · cases h
          · exact h
        have c0 : wr.cell? ⟨gw, ow, none⟩ = some (.string (Sc.ba p0)) := hwc 0 (by simp)
        have c1 : wr.cell? ⟨gw, ow + 1, none⟩ = some (.string (Sc.ba p1)) := hwc 1 (by simp)
        have HWR : Hid (∀ w1, Below wr.heap.size wr w1 → Sc.WordsAt w1 (.slice (some ⟨gw, ow + 2, none⟩) rest.length (capu - 2)) rest) := fun w1 hb => by
          refine Sc.WordsAt.below (w := wr) ⟨_, _, rfl, by simp at hcu; omega, Or.inr ⟨gw, ow + 2, rfl, hgw, fun i hi => ?_⟩⟩ hb
          have := hwc (i + 2) (by simp; omega)
          simpa [Nat.add_assoc, Nat.add_comm 2 i] using this
        have hnl : (p0 :: p1 :: rest).length = rest.length + 2 := rfl
        rw [hnl] at hcu h3 cl
        have h3i : decide ((rest.length : Int) + 2 < 3) = false := decide_eq_false (by omega)
        have hb0 : (0 : Int) < (rest.length : Int) + 2 := by omega
        have hb1 : (1 : Int) < (rest.length : Int) + 2 := by omega
        have hb2 : (2 : Int) ≤ (rest.length : Int) + 2 := by omega
        have hb3 : (rest.length : Int) + 2 ≤ (capu : Int) := by omega
        have hc2 : ¬ (capu = 2) := by have : rest.length ≠ 0 := fun e => hrne (List.eq_nil_of_length_eq_zero e); omega
        have hrl0 : 0 < rest.length := Nat.pos_of_ne_zero fun e => hrne (List.eq_nil_of_length_eq_zero e)
        have hix := HIL.out p0
        have HI0 : Hid (∀ w1, Below w.heap.size w w1 → Calls Tryz.prog 80 #[.slice adx X.length capx, .string (Sc.ba p0)] w1 fun e w' => e = .returned (.int .i64 (idxW X p0)) ∧ w' = w1) := fun w1 hb => HIX.out w1 p0 hb
        clear hwc
        by_cases hia : idxW X p0 < (a : Int)
        · have HR : Hid (FR.1 = 22) := by unfold Hid; rw [hrf]; exact readF_word (by simp; omega) hia
          clear hrf hsl
          generalize idxW X p0 = ix at *
          go_wp2_with (go_at_call 80; refine (HI0.out _ HKX.out.1).mono ?_; rintro e w2 ⟨rfl, rfl⟩)
          exact HER.out 22 _ HR.out (by decide) HKX.out.1
        · obtain ⟨kk, hkk⟩ : ∃ kk : Nat, idxW X p0 = (kk : Int) := ⟨(idxW X p0).toNat, by omega⟩
          rw [hkk] at HI0 hix hia
          have hak : a ≤ kk := by omega
          have hkr : kk < rows.length := by omega
          have hkX : (kk : Int) < (X.length : Int) := by omega
          have cN : wr.cell? ⟨w.heap.size, kk, none⟩ = some rows[kk].1 := HKX.out.2.cell kk hkr
          have HPG := hide3 (plainR_get hkr)
          have HDA : Hid (∀ w1, Below wr.heap.size wr w1 → DepsAt w1 rows[kk].1 (rows[kk].2.map (·.1))) := fun w1 hb => ((HKX.out.2.2.1 _ (List.getElem_mem hkr)).at).below hb
          have hrkk : rows[kk].2.length ≤ 5000 := Nat.le_trans (HRK.out _ (List.getElem_mem hkr)) (by omega)
          obtain ⟨adk, capk, hvk⟩ := (HKX.out.2.2.1 _ (List.getElem_mem hkr)).len
          have HRD2 : Hid (∀ w1, Below wr.heap.size wr w1 → Calls Tryz.prog 81 #[.string (Sc.ba p1), .slice (some ⟨gw, ow + 2, none⟩) rest.length (capu - 2), rows[kk].1] w1 (DepQ w1 (Sc.ba p1) rest (depE (lastN (rows[kk].2.map (·.1))) (Sc.ba p1) rest))) := fun w1 hb => HRD.out w1 _ _ _ _ _ (below_then HKX.out.1 hb) (HWR.out w1 hb) hrne (by have := hsl.1; simp at this; omega) hsl.2 (HDA.out w1 hb) (by rw [List.length_map]; omega)
          have HVK := hide3 hvk
          rw [hvk] at cN HRD2
          have gwb := cell_in c0
          have hNb := HKX.out.2.size
          have HFE : Hid (depE (lastN (rows[kk].2.map (·.1))) (Sc.ba p1) rest ≠ 0 → FR.1 = depE (lastN (rows[kk].2.map (·.1))) (Sc.ba p1) rest) := fun her => by rw [hrf]; exact readF_err (k := kk) (by simp; omega) hkk hak (by rw [HPG.out]; rfl) her
          have HFS : Hid (depE (lastN (rows[kk].2.map (·.1))) (Sc.ba p1) rest = 0 → ∀ v u, FR = readF X kk (plainR (rows.set kk (v, rows[kk].2 ++ [(lineDp (p0 :: p1 :: rest), u)]))) (Lns.drop (k + 1))) := fun her v u => by rw [hrf, plainR_set hkr]; exact readF_step (k := kk) (by simp; omega) hkk hak (by rw [HPG.out]; exact her)
          have HLD : Hid ((lineDp (p0 :: p1 :: rest)).nm = Sc.ba p1 ∧ (lineDp (p0 :: p1 :: rest)).rg = (parL (parR (jnT rest))).map spR) := ⟨rfl, rfl⟩
          have HDQ : Hid (∀ w1 er e w', DepQ w1 (Sc.ba p1) rest er e w' → ∃ nm ad len cap, e = .returned (.tuple #[.agg #[.string nm, .slice ad len cap], .int .i64 er]) ∧ Below w1.heap.size w1 w' ∧ (er = 0 → nm = Sc.ba p1 ∧ OwnS w' w1.heap.size (.slice ad len cap) (lineDp (p0 :: p1 :: rest)).rg)) := fun w1 er e w' h => by
            obtain ⟨nm, ad, len, cap, h1, h2, h3, _⟩ := h
            exact ⟨nm, ad, len, cap, h1, h2, h3⟩
          clear hrf hsl HDA HWR HPG
          have hgne : gw ≠ wr.heap.size := by have := gwb; simp only at this; omega
          have hNne : w.heap.size ≠ wr.heap.size := by have := hNb.2; omega
          generalize depE (lastN (rows[kk].2.map (·.1))) (Sc.ba p1) rest = de at *
          generalize lineDp (p0 :: p1 :: rest) = LD at *
          go_upto_region 12 with (first | (go_at_call 80; refine (HI0.out _ HKX.out.1).mono ?_; rintro e w2 ⟨rfl, hw2⟩; obtain rfl : wr = w2 := hw2.symm))
          go_cut [7, 11, 12, 18] from 18 to 60 (fun s7 s11 s12 s18 wx => ∃ M nm ad5 len5 cap5, s7 = .int .i64 (kk : Int) ∧ s18 = .int .i64 (k : Int) ∧ s12 = .int .i64 de ∧ s11 = .pointer (some ⟨M, 0, none⟩) ∧ BxD wx M nm (.slice ad5 len5 cap5) ∧ Below wr.heap.size wr wx ∧ (de = 0 → nm = Sc.ba p1 ∧ OwnS wx w.heap.size (.slice ad5 len5 cap5) LD.rg))
          case first =>
            go_region_held3 (fun w' => w'.cell? ⟨gw, ow + 1, none⟩ = some (.string (Sc.ba p1)) ∧ w'.cell? ⟨w.heap.size, kk, none⟩ = some (.slice adk rows[kk].2.length capk)) (first | exact ⟨far2 hgne c1', far2 hNne cN'⟩ | go_keep)
              (first
                | (go_at_call 81; refine (HRD2.out _ (Below.refl _ _).drew).mono ?_; rintro e w5 hdq; obtain ⟨nm5, ad5, len5, cap5, rfl, hb5, ho5⟩ := HDQ.out _ _ _ _ hdq; have HB5 : Hid (Below wr.heap.size wr w5) := below_then (Below.refl _ _).drew hb5; have HO5 := hide3 ho5; have c1' : w5.cell? ⟨gw, ow + 1, none⟩ = some (.string (Sc.ba p1)) := (hb5.cell (p := ⟨gw, ow + 1, none⟩) gwb).trans c1; have cN' : w5.cell? ⟨w.heap.size, kk, none⟩ = some (.slice adk rows[kk].2.length capk) := (hb5.cell (p := ⟨w.heap.size, kk, none⟩) hNb.2).trans cN; clear hb5 ho5 hdq)
                | (go_at_call 81; refine (HRD2.out _ (boxB _ _).drew).mono ?_; rintro e w5 hdq; obtain ⟨nm5, ad5, len5, cap5, rfl, hb5, ho5⟩ := HDQ.out _ _ _ _ hdq; have HB5 : Hid (Below wr.heap.size wr w5) := below_then (boxB _ _).drew hb5; have HO5 := hide3 ho5; have HX5 : Hid (BxDF w5 wr.heap.size ⟨#[]⟩ (.slice none 0 0)) := keepBxDF _ _ _ _ _ ((keepBxDF _ _ _).drew (BxDF.new rfl _ _)) hb5; obtain ⟨⟨b0, b1, b2⟩, b3, b4⟩ := HX5.out; have c1' : w5.cell? ⟨gw, ow + 1, none⟩ = some (.string (Sc.ba p1)) := (HB5.out.cell (p := ⟨gw, ow + 1, none⟩) gwb).trans c1; have cN' : w5.cell? ⟨w.heap.size, kk, none⟩ = some (.slice adk rows[kk].2.length capk) := (HB5.out.cell (p := ⟨w.heap.size, kk, none⟩) hNb.2).trans cN; clear hb5 ho5 hdq))
            all_goals go_wp2_with fail
            all_goals go_meet
            all_goals first
              | exact ⟨w5.heap.size, nm5, ad5, len5, cap5, rfl, rfl, rfl, rfl, BxD.new rfl _ _, below_then HB5.out (boxB _ _), fun h => ⟨(HO5.out h).1, ((HO5.out h).2.base HKX.out.1.size).below (boxB _ _)⟩⟩
              | exact ⟨wr.heap.size, nm5, ad5, len5, cap5, rfl, rfl, rfl, rfl, ⟨(set2 b0 b1).2.2.1 _ _, (set2 b0 b1).2.2.2 _ _, by simpa using b2⟩, below_set2 (Nat.le_refl _) HB5.out, fun h => ⟨(HO5.out h).1, (((HO5.out h).2.base (by have := HKX.out.1.size; simp; omega)).set (fun e => by have := ((HO5.out h).2.lt e).2; simp at this; omega) 0 _).set (fun e => by have := ((HO5.out h).2.lt e).2; simp at this; omega) 1 _⟩⟩
          case rest =>
            obtain ⟨M, nm, ad5, len5, cap5, rfl, rfl, rfl, rfl, hbx, hbl, hok⟩ := hcut
            have HBX := hide3 hbx
            have HBL := hide3 hbl
            have HKC := hide3 (keepKX _ _ _ _ _ HKX.out hbl)
            clear hbx hbl
            by_cases her : de = 0
            · obtain ⟨hnm, hou⟩ := hok her
              subst hnm
              have HOU := hide3 hou
              have HS2 := hide3 (HFS.out her)
              have erk : rows[kk]! = rows[kk] := getElem!_pos rows kk hkr
              have hNk : wc.cell? ⟨w.heap.size, kk, none⟩ = some (.slice adk rows[kk].2.length capk) := by rw [HKC.out.2.cell kk hkr, HVK.out]
              obtain ⟨m0, m1, m2⟩ := HBX.out
              have hNk' : (wc.alloc (.cells #[.string (Sc.ba p1), .slice ad5 len5 cap5] 38)).cell? ⟨w.heap.size, kk, none⟩ = some (.slice adk rows[kk].2.length capk) := ((boxB wc _).cell (p := ⟨w.heap.size, kk, none⟩) (HKC.out.2.size).2).trans hNk
              subst her
              clear hok hou HFS HFE
              go_upto_region 15 with fail
              go_region_law (refine step_appD (w := w) (wx := wc.drew) (N := w.heap.size) (rows := rows) (k := kk) (d := LD) (u := .slice ad5 len5 cap5) rfl (.tmp 55) (.tmp 57) rfl (vk := .slice adk rows[kk].2.length capk) rfl hkr (by rw [erk]; exact HVK.out) ((keepKX _ _ _).drew HKC.out) (HOU.out.below (Below.refl _ _).drew) HLD.out.1 rfl rfl (by rw [erk]; omega) ?_; intro v6 w6 hak6; obtain ⟨hk6, n0, n1, ad6, len6, cap6, rfl⟩ := hak6; rw [erk] at hk6 n0; rw [HVK.out] at n0; have HK6 := hide3 hk6; clear hk6)
              all_goals go_wp2
              all_goals exact ⟨⟨k + 1, kk, _, by omega, by go_num, rfl, (List.length_set ..).trans hrl, (fun r hr => by
                rcases List.mem_or_eq_of_mem_set hr with h | rfl
                · exact Nat.le_succ_of_le (HRK.out r h)
                · simp only [List.length_append, List.length_cons, List.length_nil]
                  exact Nat.succ_le_succ (HRK.out _ (List.getElem_mem hkr))), HK6.out, HS2.out _ _⟩, by simp [intOf]; omega⟩
            · have HR := hide3 (HFE.out her)
              have hde : (de == 0) = false := by simpa using her
              go_wp2
              exact HER.out de _ HR.out her HKC.out.1
    · have hke : k = Lns.length := by omega
      subst hke
      rw [List.drop_length] at hrf
      have HR : Hid (FR = (0, plainR rows)) := by unfold Hid; rw [hrf]; rfl
      clear hrf hrk hkx
      go_wp2
      exact HOK.out rows _ hrl HKX.out HR.out
end Go.Proofs.YtabocemcbekioaaGreatDoor
namespace Go.Proofs.YtabocemcbekioaaGreatDoor
open Go.RowKit
set_option maxRecDepth 100000

/-- A package's variable that may be written. -/
def BxPF (w : World) (N : Nat) (s : ByteArray) (a b c : Int) (v1 v2 v3 : Value) : Prop := BxP w N s a b c v1 v2 v3 ∧ ∀ i, i < 7 → w.frozen? ⟨N, i, none⟩ = false
theorem keepBxPF (N : Nat) (s : ByteArray) (a b c : Int) (v1 v2 v3 : Value) : KeepP fun w1 => BxPF w1 N s a b c v1 v2 v3 := fun _ _ h hb =>
  ⟨keepBxP _ _ _ _ _ _ _ _ _ _ h.1 hb, fun i hi => (hb.frozen (p := ⟨N, i, none⟩) h.1.2.2.2.2.2.2.2).trans (h.2 i hi)⟩
theorem BxPF.new {w : World} {N : Nat} (hN : w.heap.size = N) (s : ByteArray) (a b c : Int) (v1 v2 v3 : Value) : BxPF (w.alloc (.cells #[.string s, .int .i64 a, .int .i64 b, .int .i64 c, v1, v2, v3] 26)) N s a b c v1 v2 v3 := by
  refine ⟨BxP.new hN _ _ _ _ _ _ _, fun i hi => ?_⟩
  subst hN
  simp
theorem set_far {w : World} {N i j : Nat} {u x : Value} (h : i ≠ j) (hx : w.cell? ⟨N, j, none⟩ = some x) : (w.setCell ⟨N, i, none⟩ u).cell? ⟨N, j, none⟩ = some x := (World.cell?_setCell_other _ _ _ _ (fun e => by cases e; exact h rfl)).trans hx
theorem set7 {w : World} {N : Nat} {x0 x1 x2 x3 x4 x5 x6 : Value} (j0 : w.cell? ⟨N, 0, none⟩ = some x0) (j1 : w.cell? ⟨N, 1, none⟩ = some x1) (j2 : w.cell? ⟨N, 2, none⟩ = some x2) (j3 : w.cell? ⟨N, 3, none⟩ = some x3) (j4 : w.cell? ⟨N, 4, none⟩ = some x4) (j5 : w.cell? ⟨N, 5, none⟩ = some x5) (j6 : w.cell? ⟨N, 6, none⟩ = some x6) (u0 u1 u2 u3 u4 u5 u6 : Value) :
    (((((((w.setCell ⟨N, 0, none⟩ u0).setCell ⟨N, 1, none⟩ u1).setCell ⟨N, 2, none⟩ u2).setCell ⟨N, 3, none⟩ u3).setCell ⟨N, 4, none⟩ u4).setCell ⟨N, 5, none⟩ u5).setCell ⟨N, 6, none⟩ u6).cell? ⟨N, 0, none⟩ = some u0 ∧ (((((((w.setCell ⟨N, 0, none⟩ u0).setCell ⟨N, 1, none⟩ u1).setCell ⟨N, 2, none⟩ u2).setCell ⟨N, 3, none⟩ u3).setCell ⟨N, 4, none⟩ u4).setCell ⟨N, 5, none⟩ u5).setCell ⟨N, 6, none⟩ u6).cell? ⟨N, 1, none⟩ = some u1 ∧ (((((((w.setCell ⟨N, 0, none⟩ u0).setCell ⟨N, 1, none⟩ u1).setCell ⟨N, 2, none⟩ u2).setCell ⟨N, 3, none⟩ u3).setCell ⟨N, 4, none⟩ u4).setCell ⟨N, 5, none⟩ u5).setCell ⟨N, 6, none⟩ u6).cell? ⟨N, 2, none⟩ = some u2 ∧ (((((((w.setCell ⟨N, 0, none⟩ u0).setCell ⟨N, 1, none⟩ u1).setCell ⟨N, 2, none⟩ u2).setCell ⟨N, 3, none⟩ u3).setCell ⟨N, 4, none⟩ u4).setCell ⟨N, 5, none⟩ u5).setCell ⟨N, 6, none⟩ u6).cell? ⟨N, 3, none⟩ = some u3 ∧ (((((((w.setCell ⟨N, 0, none⟩ u0).setCell ⟨N, 1, none⟩ u1).setCell ⟨N, 2, none⟩ u2).setCell ⟨N, 3, none⟩ u3).setCell ⟨N, 4, none⟩ u4).setCell ⟨N, 5, none⟩ u5).setCell ⟨N, 6, none⟩ u6).cell? ⟨N, 4, none⟩ = some u4 ∧ (((((((w.setCell ⟨N, 0, none⟩ u0).setCell ⟨N, 1, none⟩ u1).setCell ⟨N, 2, none⟩ u2).setCell ⟨N, 3, none⟩ u3).setCell ⟨N, 4, none⟩ u4).setCell ⟨N, 5, none⟩ u5).setCell ⟨N, 6, none⟩ u6).cell? ⟨N, 5, none⟩ = some u5 ∧ (((((((w.setCell ⟨N, 0, none⟩ u0).setCell ⟨N, 1, none⟩ u1).setCell ⟨N, 2, none⟩ u2).setCell ⟨N, 3, none⟩ u3).setCell ⟨N, 4, none⟩ u4).setCell ⟨N, 5, none⟩ u5).setCell ⟨N, 6, none⟩ u6).cell? ⟨N, 6, none⟩ = some u6 := by
  exact ⟨set_far (by decide) (set_far (by decide) (set_far (by decide) (set_far (by decide) (set_far (by decide) (set_far (by decide) (World.cell?_setCell_same _ _ _ (j0))))))), set_far (by decide) (set_far (by decide) (set_far (by decide) (set_far (by decide) (set_far (by decide) (World.cell?_setCell_same _ _ _ (set_far (by decide) (j1))))))), set_far (by decide) (set_far (by decide) (set_far (by decide) (set_far (by decide) (World.cell?_setCell_same _ _ _ (set_far (by decide) (set_far (by decide) (j2))))))), set_far (by decide) (set_far (by decide) (set_far (by decide) (World.cell?_setCell_same _ _ _ (set_far (by decide) (set_far (by decide) (set_far (by decide) (j3))))))), set_far (by decide) (set_far (by decide) (World.cell?_setCell_same _ _ _ (set_far (by decide) (set_far (by decide) (set_far (by decide) (set_far (by decide) (j4))))))), set_far (by decide) (World.cell?_setCell_same _ _ _ (set_far (by decide) (set_far (by decide) (set_far (by decide) (set_far (by decide) (set_far (by decide) (j5))))))), World.cell?_setCell_same _ _ _ (set_far (by decide) (set_far (by decide) (set_far (by decide) (set_far (by decide) (set_far (by decide) (set_far (by decide) (j6)))))))⟩
theorem below_set7 {w w' : World} {N B : Nat} {u0 u1 u2 u3 u4 u5 u6 : Value} (hN : B ≤ N) (h : Below B w w') : Below B w (((((((w'.setCell ⟨N, 0, none⟩ u0).setCell ⟨N, 1, none⟩ u1).setCell ⟨N, 2, none⟩ u2).setCell ⟨N, 3, none⟩ u3).setCell ⟨N, 4, none⟩ u4).setCell ⟨N, 5, none⟩ u5).setCell ⟨N, 6, none⟩ u6) :=
  (((((((h.setCell (p := ⟨N, 0, none⟩) hN _).setCell (p := ⟨N, 1, none⟩) hN _).setCell (p := ⟨N, 2, none⟩) hN _).setCell (p := ⟨N, 3, none⟩) hN _).setCell (p := ⟨N, 4, none⟩) hN _).setCell (p := ⟨N, 5, none⟩) hN _).setCell (p := ⟨N, 6, none⟩) hN _)

/-- What readHead answers. -/
def headE (ws : List Sc.Bs) : Int := if ws.head? = some [112, 97, 99, 107, 97, 103, 101] ∧ ws.length = 3 then (if Sc.nameA (ws.getD 1 []) = true then (if okP (Sc.ba (ws.getD 2 [])) = true then 0 else 20) else 23) else 22
/-- The package that is read so far, beside an error's number. -/
def HeadQ (w : World) (ws : List Sc.Bs) (er : Int) (e : Ending) (w' : World) : Prop := ∃ s a b c, e = .returned (.tuple #[.agg #[.string s, .int .i64 a, .int .i64 b, .int .i64 c, .slice none 0 0, .slice none 0 0, .slice none 0 0], .int .i64 er]) ∧ Below w.heap.size w w' ∧ (er = 0 → s = Sc.ba (ws.getD 1 []) ∧ a = resA (Sc.ba (ws.getD 2 [])) ∧ b = resB (Sc.ba (ws.getD 2 [])) ∧ c = resC (Sc.ba (ws.getD 2 []))) ∧ (er ≠ 0 → s = ⟨#[]⟩ ∧ a = 0 ∧ b = 0 ∧ c = 0)
theorem HeadQ.err {w w' : World} {ws : List Sc.Bs} {er : Int} (h : er ≠ 0) (hb : Below w.heap.size w w') : HeadQ w ws er (.returned (.tuple #[.agg #[.string ⟨#[]⟩, .int .i64 0, .int .i64 0, .int .i64 0, .slice none 0 0, .slice none 0 0, .slice none 0 0], .int .i64 er])) w' := ⟨_, _, _, _, rfl, hb, fun e => absurd e h, fun _ => ⟨rfl, rfl, rfl, rfl⟩⟩
end Go.Proofs.YtabocemcbekioaaGreatDoor
namespace Go.Proofs.YtabocemcbekioaaGreatDoor
open Go.RowKit
set_option maxRecDepth 100000

theorem ba_list (l : Sc.Bs) : (Sc.ba l).data.toList = l := by simp [Sc.ba]

set_option maxHeartbeats 1000000 in
theorem readHead_short {ws : List Sc.Bs} {p0 : Sc.Bs} {g o cap : Nat} {n : Nat} {w : World} (c0 : w.cell? ⟨g, o, none⟩ = some (.string (Sc.ba p0))) (hn : 0 < n) (hg : g < w.heap.size) (h : p0 ≠ [112, 97, 99, 107, 97, 103, 101] ∨ n ≠ 3) :
    Calls Tryz.prog 57 #[.slice (some ⟨g, o, none⟩) n cap] w (HeadQ w ws 22) := by
  have HER : Hid (∀ w', Below w.heap.size w w' → HeadQ w ws 22 (.returned (.tuple #[.agg #[.string ⟨#[]⟩, .int .i64 0, .int .i64 0, .int .i64 0, .slice none 0 0, .slice none 0 0, .slice none 0 0], .int .i64 22])) w') := fun w' hb => HeadQ.err (by decide) hb
  have c0' : (w.alloc (.cells #[.string ⟨#[]⟩, .int .i64 0, .int .i64 0, .int .i64 0, .slice none 0 0, .slice none 0 0, .slice none 0 0] 26)).cell? ⟨g, o, none⟩ = some (.string (Sc.ba p0)) := ((boxB w _).cell (p := ⟨g, o, none⟩) hg).trans c0
  have hn' : (0 : Int) < (n : Int) := by omega
  have ht := ba_toList p0
  generalize HeadQ w ws 22 = HQ at *
  generalize Sc.ba p0 = s0 at *
  by_cases hp : p0 = [112, 97, 99, 107, 97, 103, 101]
  · have hn3 : ((n : Int) == 3) = false := by
      rcases h with h | h
      · exact (h hp).elim
      · rw [beq_eq_false_iff_ne]; omega
    have hq : (s0.toList == [112, 97, 99, 107, 97, 103, 101]) = true := by rw [ht, hp]; rfl
    clear h ht
    go_enter Tryz.func57, Tryz.ntmps57
    go_wp2
    try simp only [Exit.inBlock, Exit.then]
    refine bodyPost_ret (by simp [results, Tryz.results57, go_sem]; try rfl) rfl ?_
    exact HER.out _ (boxB _ _)
  · have hq : (s0.toList == [112, 97, 99, 107, 97, 103, 101]) = false := by rw [ht, beq_eq_false_iff_ne]; exact hp
    clear h ht
    go_enter Tryz.func57, Tryz.ntmps57
    go_wp2
    try simp only [Exit.inBlock, Exit.then]
    refine bodyPost_ret (by simp [results, Tryz.results57, go_sem]; try rfl) rfl ?_
    exact HER.out _ (boxB _ _)

set_option maxHeartbeats 1000000 in
theorem readHead_noName {ws : List Sc.Bs} {s1 : ByteArray} {g o cap : Nat} {w : World} (c0 : w.cell? ⟨g, o, none⟩ = some (.string ⟨#[112, 97, 99, 107, 97, 103, 101]⟩)) (c1 : w.cell? ⟨g, o + 1, none⟩ = some (.string s1)) (hg : g < w.heap.size) (h : Sc.nameA s1.data.toList = false) :
    Calls Tryz.prog 57 #[.slice (some ⟨g, o, none⟩) 3 cap] w (HeadQ w ws 23) := by
  have HER : Hid (∀ w', Below w.heap.size w w' → HeadQ w ws 23 (.returned (.tuple #[.agg #[.string ⟨#[]⟩, .int .i64 0, .int .i64 0, .int .i64 0, .slice none 0 0, .slice none 0 0, .slice none 0 0], .int .i64 23])) w') := fun w' hb => HeadQ.err (by decide) hb
  have HN : Hid (∀ w1, Calls Tryz.prog 70 #[.string s1] w1 fun e w' => e = .returned (.bool false) ∧ w' = w1) := fun w1 => by have := Sc.Name_any s1 w1; rw [h] at this; exact this
  have c0' : (w.alloc (.cells #[.string ⟨#[]⟩, .int .i64 0, .int .i64 0, .int .i64 0, .slice none 0 0, .slice none 0 0, .slice none 0 0] 26)).cell? ⟨g, o, none⟩ = some (.string ⟨#[112, 97, 99, 107, 97, 103, 101]⟩) := ((boxB w _).cell (p := ⟨g, o, none⟩) hg).trans c0
  have c1' : (w.alloc (.cells #[.string ⟨#[]⟩, .int .i64 0, .int .i64 0, .int .i64 0, .slice none 0 0, .slice none 0 0, .slice none 0 0] 26)).cell? ⟨g, o + 1, none⟩ = some (.string s1) := ((boxB w _).cell (p := ⟨g, o + 1, none⟩) hg).trans c1
  generalize HeadQ w ws 23 = HQ at *
  clear h
  go_enter Tryz.func57, Tryz.ntmps57
  go_wp2_with (go_at_call 70; refine (HN.out _).mono ?_; rintro e w1 ⟨rfl, rfl⟩)
  try simp only [Exit.inBlock, Exit.then]
  refine bodyPost_ret (by simp [results, Tryz.results57, go_sem]; try rfl) rfl ?_
  exact HER.out _ (boxB _ _)

set_option maxHeartbeats 1000000 in
theorem readHead_noVer {ws : List Sc.Bs} {s1 s2 : ByteArray} {g o cap : Nat} {w : World} (c0 : w.cell? ⟨g, o, none⟩ = some (.string ⟨#[112, 97, 99, 107, 97, 103, 101]⟩)) (c1 : w.cell? ⟨g, o + 1, none⟩ = some (.string s1)) (c2 : w.cell? ⟨g, o + 2, none⟩ = some (.string s2)) (hg : g < w.heap.size) (h : Sc.nameA s1.data.toList = true) (hz : s2.size < 4294967281) (he : Env w) (hv : okP s2 = false) :
    Calls Tryz.prog 57 #[.slice (some ⟨g, o, none⟩) 3 cap] w (HeadQ w ws 20) := by
  have HER : Hid (∀ w', Below w.heap.size w w' → HeadQ w ws 20 (.returned (.tuple #[.agg #[.string ⟨#[]⟩, .int .i64 0, .int .i64 0, .int .i64 0, .slice none 0 0, .slice none 0 0, .slice none 0 0], .int .i64 20])) w') := fun w' hb => HeadQ.err (by decide) hb
  have HN : Hid (∀ w1, Calls Tryz.prog 70 #[.string s1] w1 fun e w' => e = .returned (.bool true) ∧ w' = w1) := fun w1 => by have := Sc.Name_any s1 w1; rw [h] at this; exact this
  have HP : Hid (∀ w1, Below w.heap.size w w1 → Calls Tryz.prog 79 #[.string s2] w1 fun e w' => e = .returned (.tuple #[.agg #[.int .i64 (resA s2), .int .i64 (resB s2), .int .i64 (resC s2)], .bool false]) ∧ Below w1.heap.size w1 w') := fun w1 hb => by have := Parse_any s2 hz w1 (he.below hb); rw [hv] at this; exact this
  have HB0 : Hid (BxPF (w.alloc (.cells #[.string ⟨#[]⟩, .int .i64 0, .int .i64 0, .int .i64 0, .slice none 0 0, .slice none 0 0, .slice none 0 0] 26)) w.heap.size ⟨#[]⟩ 0 0 0 (.slice none 0 0) (.slice none 0 0) (.slice none 0 0)) := BxPF.new rfl _ _ _ _ _ _ _
  have HKB : Hid (KeepP fun w1 => BxPF w1 w.heap.size ⟨#[]⟩ 0 0 0 (.slice none 0 0) (.slice none 0 0) (.slice none 0 0)) := keepBxPF _ _ _ _ _ _ _ _
  have c0' : (w.alloc (.cells #[.string ⟨#[]⟩, .int .i64 0, .int .i64 0, .int .i64 0, .slice none 0 0, .slice none 0 0, .slice none 0 0] 26)).cell? ⟨g, o, none⟩ = some (.string ⟨#[112, 97, 99, 107, 97, 103, 101]⟩) := ((boxB w _).cell (p := ⟨g, o, none⟩) hg).trans c0
  have c1' : (w.alloc (.cells #[.string ⟨#[]⟩, .int .i64 0, .int .i64 0, .int .i64 0, .slice none 0 0, .slice none 0 0, .slice none 0 0] 26)).cell? ⟨g, o + 1, none⟩ = some (.string s1) := ((boxB w _).cell (p := ⟨g, o + 1, none⟩) hg).trans c1
  have c2' : (w.alloc (.cells #[.string ⟨#[]⟩, .int .i64 0, .int .i64 0, .int .i64 0, .slice none 0 0, .slice none 0 0, .slice none 0 0] 26)).cell? ⟨g, o + 2, none⟩ = some (.string s2) := ((boxB w _).cell (p := ⟨g, o + 2, none⟩) hg).trans c2
  generalize HeadQ w ws 20 = HQ at *
  generalize resA s2 = ra at *
  generalize resB s2 = rb at *
  generalize resC s2 = rc at *
  clear h he hv hz
  go_enter Tryz.func57, Tryz.ntmps57
  go_wp2_with (first
    | (go_at_call 70; refine (HN.out _).mono ?_; rintro e w1 ⟨rfl, rfl⟩)
    | (go_at_call 79; refine (HP.out _ (boxB _ _)).mono ?_; rintro e w2 ⟨rfl, ok⟩; have HO2 : Hid (Below w.heap.size w (w2.alloc (.cells #[.int .i64 ra, .int .i64 rb, .int .i64 rc] 23)) ∧ BxPF (w2.alloc (.cells #[.int .i64 ra, .int .i64 rb, .int .i64 rc] 23)) w.heap.size ⟨#[]⟩ 0 0 0 (.slice none 0 0) (.slice none 0 0) (.slice none 0 0)) := ⟨below_then (below_then (boxB _ _) ok) (boxB _ _), HKB.out _ _ (HKB.out _ _ HB0.out ok) (boxB _ _)⟩; obtain ⟨⟨b0, b1, b2, b3, b4, b5, b6, b7⟩, hfz⟩ := HO2.out.2; have f0 := hfz 0 (by decide); have f1 := hfz 1 (by decide); have f2 := hfz 2 (by decide); have f3 := hfz 3 (by decide); have f4 := hfz 4 (by decide); have f5 := hfz 5 (by decide); have f6 := hfz 6 (by decide); clear ok hfz))
  have s7 := fun u0 u1 u2 u3 u4 u5 u6 => set7 b0 b1 b2 b3 b4 b5 b6 u0 u1 u2 u3 u4 u5 u6
  try simp only [Exit.inBlock, Exit.then]
  refine bodyPost_ret (by simp [results, Tryz.results57, s7, go_sem]; try rfl) rfl ?_
  exact HER.out _ (below_set7 (Nat.le_refl _) HO2.out.1)
end Go.Proofs.YtabocemcbekioaaGreatDoor
namespace Go.Proofs.YtabocemcbekioaaGreatDoor
open Go.RowKit
set_option maxRecDepth 100000

set_option maxHeartbeats 1600000 in
theorem readHead_ok {ws : List Sc.Bs} {s1 s2 : ByteArray} {g o cap : Nat} {w : World} (c0 : w.cell? ⟨g, o, none⟩ = some (.string ⟨#[112, 97, 99, 107, 97, 103, 101]⟩)) (c1 : w.cell? ⟨g, o + 1, none⟩ = some (.string s1)) (c2 : w.cell? ⟨g, o + 2, none⟩ = some (.string s2)) (hg : g < w.heap.size) (h : Sc.nameA s1.data.toList = true) (hz : s2.size < 4294967281) (he : Env w) (hv : okP s2 = true) (h1 : s1 = Sc.ba (ws.getD 1 [])) (h2 : s2 = Sc.ba (ws.getD 2 [])) :
    Calls Tryz.prog 57 #[.slice (some ⟨g, o, none⟩) 3 cap] w (HeadQ w ws 0) := by
  have HOK : Hid (∀ w', Below w.heap.size w w' → HeadQ w ws 0 (.returned (.tuple #[.agg #[.string s1, .int .i64 (resA s2), .int .i64 (resB s2), .int .i64 (resC s2), .slice none 0 0, .slice none 0 0, .slice none 0 0], .int .i64 0])) w') := fun w' hb => ⟨_, _, _, _, rfl, hb, fun _ => ⟨h1, by rw [← h2], by rw [← h2], by rw [← h2]⟩, fun e => absurd rfl e⟩
  have HN : Hid (∀ w1, Calls Tryz.prog 70 #[.string s1] w1 fun e w' => e = .returned (.bool true) ∧ w' = w1) := fun w1 => by have := Sc.Name_any s1 w1; rw [h] at this; exact this
  have HP : Hid (∀ w1, Below w.heap.size w w1 → Calls Tryz.prog 79 #[.string s2] w1 fun e w' => e = .returned (.tuple #[.agg #[.int .i64 (resA s2), .int .i64 (resB s2), .int .i64 (resC s2)], .bool true]) ∧ Below w1.heap.size w1 w') := fun w1 hb => by have := Parse_any s2 hz w1 (he.below hb); rw [hv] at this; exact this
  have HB0 : Hid (BxPF (w.alloc (.cells #[.string ⟨#[]⟩, .int .i64 0, .int .i64 0, .int .i64 0, .slice none 0 0, .slice none 0 0, .slice none 0 0] 26)) w.heap.size ⟨#[]⟩ 0 0 0 (.slice none 0 0) (.slice none 0 0) (.slice none 0 0)) := BxPF.new rfl _ _ _ _ _ _ _
  have HKB : Hid (KeepP fun w1 => BxPF w1 w.heap.size ⟨#[]⟩ 0 0 0 (.slice none 0 0) (.slice none 0 0) (.slice none 0 0)) := keepBxPF _ _ _ _ _ _ _ _
  have c0' : (w.alloc (.cells #[.string ⟨#[]⟩, .int .i64 0, .int .i64 0, .int .i64 0, .slice none 0 0, .slice none 0 0, .slice none 0 0] 26)).cell? ⟨g, o, none⟩ = some (.string ⟨#[112, 97, 99, 107, 97, 103, 101]⟩) := ((boxB w _).cell (p := ⟨g, o, none⟩) hg).trans c0
  have c1' : (w.alloc (.cells #[.string ⟨#[]⟩, .int .i64 0, .int .i64 0, .int .i64 0, .slice none 0 0, .slice none 0 0, .slice none 0 0] 26)).cell? ⟨g, o + 1, none⟩ = some (.string s1) := ((boxB w _).cell (p := ⟨g, o + 1, none⟩) hg).trans c1
  have c2' : (w.alloc (.cells #[.string ⟨#[]⟩, .int .i64 0, .int .i64 0, .int .i64 0, .slice none 0 0, .slice none 0 0, .slice none 0 0] 26)).cell? ⟨g, o + 2, none⟩ = some (.string s2) := ((boxB w _).cell (p := ⟨g, o + 2, none⟩) hg).trans c2
  generalize HeadQ w ws 0 = HQ at *
  generalize resA s2 = ra at *
  generalize resB s2 = rb at *
  generalize resC s2 = rc at *
  clear h he hv hz h1 h2
  go_enter Tryz.func57, Tryz.ntmps57
  go_wp2_with (first
    | (go_at_call 70; refine (HN.out _).mono ?_; rintro e w1 ⟨rfl, rfl⟩)
    | (go_at_call 79; refine (HP.out _ (boxB _ _)).mono ?_; rintro e w2 ⟨rfl, ok⟩; have HO2 : Hid (Below w.heap.size w (w2.alloc (.cells #[.int .i64 ra, .int .i64 rb, .int .i64 rc] 23)) ∧ BxPF (w2.alloc (.cells #[.int .i64 ra, .int .i64 rb, .int .i64 rc] 23)) w.heap.size ⟨#[]⟩ 0 0 0 (.slice none 0 0) (.slice none 0 0) (.slice none 0 0)) := ⟨below_then (below_then (boxB _ _) ok) (boxB _ _), HKB.out _ _ (HKB.out _ _ HB0.out ok) (boxB _ _)⟩; obtain ⟨⟨b0, b1, b2, b3, b4, b5, b6, b7⟩, hfz⟩ := HO2.out.2; have f0 := hfz 0 (by decide); have f1 := hfz 1 (by decide); have f2 := hfz 2 (by decide); have f3 := hfz 3 (by decide); have f4 := hfz 4 (by decide); have f5 := hfz 5 (by decide); have f6 := hfz 6 (by decide); have d1 : (w2.alloc (.cells #[.int .i64 ra, .int .i64 rb, .int .i64 rc] 23)).cell? ⟨g, o + 1, none⟩ = some (.string s1) := (HO2.out.1.cell (p := ⟨g, o + 1, none⟩) hg).trans c1; clear ok hfz))
  have v0 : (w2.alloc (.cells #[.int .i64 ra, .int .i64 rb, .int .i64 rc] 23)).cell? ⟨w2.heap.size, 0, none⟩ = some (.int .i64 ra) := by simp
  have v1 : (w2.alloc (.cells #[.int .i64 ra, .int .i64 rb, .int .i64 rc] 23)).cell? ⟨w2.heap.size, 1, none⟩ = some (.int .i64 rb) := by simp
  have v2 : (w2.alloc (.cells #[.int .i64 ra, .int .i64 rb, .int .i64 rc] 23)).cell? ⟨w2.heap.size, 2, none⟩ = some (.int .i64 rc) := by simp
  generalize w2.alloc (.cells #[.int .i64 ra, .int .i64 rb, .int .i64 rc] 23) = w3 at *
  generalize w2.heap.size = M at *
  clear HB0 HKB c0 c1 c2 c0' c1' c2'
  have s7 := fun u0 u1 u2 u3 u4 u5 u6 => set7 b0 b1 b2 b3 b4 b5 b6 u0 u1 u2 u3 u4 u5 u6
  go_region
  go_wp2
  refine bodyPost_ret (by simp [results, Tryz.results57, s7, go_sem]; try rfl) rfl ?_
  refine HOK.out _ ?_
  exact (below_set7 (Nat.le_refl _) HO2.out.1).drew

/-- readHead, of any line that has a word. -/
theorem readHead_any {ws : List Sc.Bs} {v : Value} {w : World} (h : Sc.WordsAt w v ws) (hne : ws ≠ []) (hz : ∀ x ∈ ws, x.length ≤ 5000) (he : Env w) : Calls Tryz.prog 57 #[v] w (HeadQ w ws (headE ws)) := by
  obtain ⟨ad, cap, rfl, hc, hs⟩ := h
  rcases hs with hs | ⟨g, o, rfl, hg, hs⟩
  · exact absurd hs hne
  · have hl : 0 < ws.length := List.length_pos_iff.2 hne
    have c0 := hs 0 hl
    have hh : ws.head? = some ws[0] := by
      cases ws with
      | nil => exact absurd rfl hne
      | cons x r => rfl
    by_cases hp : ws.head? = some [112, 97, 99, 107, 97, 103, 101] ∧ ws.length = 3
    · obtain ⟨hp1, hp2⟩ := hp
      have e0 : ws[0] = [112, 97, 99, 107, 97, 103, 101] := by rw [hh] at hp1; exact Option.some.inj hp1
      have c1 := hs 1 (by omega)
      have c2 := hs 2 (by omega)
      have g1 : ws.getD 1 [] = ws[1] := by rw [List.getD_eq_getElem?_getD, List.getElem?_eq_getElem (by omega)]; rfl
      have g2 : ws.getD 2 [] = ws[2] := by rw [List.getD_eq_getElem?_getD, List.getElem?_eq_getElem (by omega)]; rfl
      have z2 : (Sc.ba ws[2]).size < 4294967281 := by rw [Sc.ba_size]; have := hz _ (List.getElem_mem (show 2 < ws.length by omega)); omega
      rw [e0] at c0
      unfold headE
      rw [if_pos ⟨hp1, hp2⟩, g1, g2]
      clear hs hc
      revert c1 c2 g1 g2 z2
      generalize h1 : ws[1] = t1
      generalize h2 : ws[2] = t2
      intro c1 c2 g1 g2 z2
      rw [hp2]
      cases hn : Sc.nameA t1
      · rw [if_neg (by simp)]
        exact readHead_noName c0 c1 hg (by rw [Sc.ba_list]; exact hn)
      · rw [if_pos rfl]
        cases hv : okP (Sc.ba t2)
        · rw [if_neg (by simp)]
          exact readHead_noVer c0 c1 c2 hg (by rw [Sc.ba_list]; exact hn) z2 he hv
        · rw [if_pos rfl]
          exact readHead_ok c0 c1 c2 hg (by rw [Sc.ba_list]; exact hn) z2 he hv (by rw [g1]) (by rw [g2])
    · unfold headE
      rw [if_neg hp]
      exact readHead_short c0 hl hg (by
        by_cases h3 : ws.length = 3
        · exact Or.inl fun e => hp ⟨by rw [hh, e], h3⟩
        · exact Or.inr h3)
end Go.Proofs.YtabocemcbekioaaGreatDoor
