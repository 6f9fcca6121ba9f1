/- Rd1, Rd2, Rd3, Rk10, laid in one text. -/
import Derived.Deep.RegionLaw
import Derived.Deep.CutRange
import Derived.Test.YthoacfmfpbngkaaGreatDoorMg15
namespace Go.Proofs.YthoacfmfpbngkaaGreatDoor
open Go.RowKit
set_option maxRecDepth 100000

/-- Dependencies as cells, with their ranges' slices. -/
def dpCells (ps : List (Dp × Value)) : List Value := ps.flatMap fun p => [.string p.1.nm, p.2]
theorem dpCells_length (ps : List (Dp × Value)) : (dpCells ps).length = ps.length * 2 := by
  induction ps with
  | nil => rfl
  | cons p ps ih => unfold dpCells at *; simp only [List.flatMap_cons, List.length_append, List.length_cons, List.length_nil, ih]; omega
theorem dpCells_snoc (ps : List (Dp × Value)) (p : Dp × Value) : dpCells (ps ++ [p]) = dpCells ps ++ [.string p.1.nm, p.2] := by simp [dpCells]
theorem dpCells_at : ∀ (ps : List (Dp × Value)) (i : Nat) (h : i < ps.length), (dpCells ps)[i * 2]? = some (.string ps[i].1.nm) ∧ (dpCells ps)[i * 2 + 1]? = some ps[i].2
  | [], i, h => by simp at h
  | p :: ps, 0, _ => by simp [dpCells]
  | p :: ps, i + 1, h => by
    have := dpCells_at ps i (by simpa using h)
    have e : dpCells (p :: ps) = .string p.1.nm :: p.2 :: dpCells ps := by simp [dpCells]
    rw [e, show (i + 1) * 2 = i * 2 + 1 + 1 by omega]
    simpa using this

/-- Dependencies of one's own, with ranges of one's own. -/
def OwnD (w : World) (B : Nat) (v : Value) (ps : List (Dp × Value)) : Prop := w.ownsRow B 60 2 v ps.length (dpCells ps) ∧ ∀ p ∈ ps, OwnS w B p.2 p.1.rg
theorem OwnD.nil (w : World) (B : Nat) : OwnD w B (.slice none 0 0) [] := ⟨⟨rfl, Or.inl ⟨rfl, rfl⟩⟩, fun p hp => by cases hp⟩
theorem own_of {w w' : World} {B : Nat} {e : TypeId} {z : Nat} {v : Value} {n : Nat} {xs : List Value} (h : w.ownsRow B e z v n xs) (hk : ∀ g, v.ownBlock = some g → w'.heap[g]? = w.heap[g]?) : w'.ownsRow B e z v n xs := by
  refine ⟨h.1, ?_⟩
  rcases h.2 with hn | ⟨g, cap, cur, rfl, hB, hgg, r⟩
  · exact Or.inl hn
  · exact Or.inr ⟨g, cap, cur, rfl, hB, (hk g rfl).trans hgg, r⟩
theorem own_below {w w' : World} {B : Nat} {e : TypeId} {z : Nat} {v : Value} {n : Nat} {xs : List Value} (h : w.ownsRow B e z v n xs) (hb : Below w.heap.size w w') : w'.ownsRow B e z v n xs := own_of h fun g hg => hb.block g (h.lt g hg).2
theorem own_base {w : World} {B C : Nat} {e : TypeId} {z : Nat} {v : Value} {n : Nat} {xs : List Value} (h : w.ownsRow B e z v n xs) (hc : C ≤ B) : w.ownsRow C e z v n xs := by
  refine ⟨h.1, ?_⟩
  rcases h.2 with hn | ⟨g, cap, cur, hv, hB, r⟩
  · exact Or.inl hn
  · exact Or.inr ⟨g, cap, cur, hv, Nat.le_trans hc hB, r⟩
/-- Rows of other types are other rows. -/
theorem own_ne {w : World} {B B' : Nat} {e e' : TypeId} {z z' : Nat} {v v' : Value} {n n' : Nat} {xs xs' : List Value} (h : w.ownsRow B e z v n xs) (h' : w.ownsRow B' e' z' v' n' xs') (hne : e ≠ e') {g : Nat} (hg : v.ownBlock = some g) : v'.ownBlock ≠ some g := by
  intro hg'
  rcases h.2 with ⟨rfl, _⟩ | ⟨g1, cap, cur, rfl, _, hgg, _⟩
  · cases hg
  · rcases h'.2 with ⟨rfl, _⟩ | ⟨g2, cap', cur', rfl, _, hgg', _⟩
    · cases hg'
    · cases hg
      cases hg'
      rw [hgg] at hgg'
      injection hgg' with e1
      injection e1 with _ e2 _
      exact hne e2
theorem OwnD.below {w w' : World} {B : Nat} {v : Value} {ps : List (Dp × Value)} (h : OwnD w B v ps) (hb : Below w.heap.size w w') : OwnD w' B v ps := ⟨own_below h.1 hb, fun p hp => (h.2 p hp).below hb⟩
theorem OwnD.base {w : World} {B C : Nat} {v : Value} {ps : List (Dp × Value)} (h : OwnD w B v ps) (hc : C ≤ B) : OwnD w C v ps := ⟨own_base h.1 hc, fun p hp => (h.2 p hp).base hc⟩
theorem OwnS.at {w : World} {B : Nat} {v : Value} {L : List Sp} (h : OwnS w B v L) : SpansC w v L ∧ L.length ≤ 9223372036854775807 := by
  have h0 := h
  obtain ⟨ad, cap, rfl, hc, hl⟩ := h.sp
  refine ⟨⟨⟨ad, cap, rfl, hl⟩, ad, _, cap, rfl, hc⟩, ?_⟩
  rcases h0.2 with ⟨_, hn⟩ | ⟨g, cap', cur, _, _, _, h1, h2, _⟩
  · omega
  · unfold maxLen at h2; omega
theorem OwnD.at {w : World} {B : Nat} {v : Value} {ps : List (Dp × Value)} (h : OwnD w B v ps) : DepsAt w v (ps.map (·.1)) := by
  have h0 := h.1
  rcases h.1.2 with ⟨rfl, hn⟩ | ⟨g, cap, cur, rfl, hB, hg, hc, hm, _⟩
  · have : ps = [] := List.eq_nil_of_length_eq_zero hn
    subst this
    exact ⟨none, 0, rfl, Nat.le_refl _, Or.inl rfl⟩
  · have hlt := (Array.getElem?_eq_some_iff.1 hg).1
    refine ⟨_, cap, by rw [List.length_map], by rw [List.length_map]; exact hc, Or.inr ⟨g, 0, rfl, hlt, fun i hi => ?_⟩⟩
    have hi' : i < ps.length := by simpa using hi
    have c0 := World.ownsRow.cellAt h0 (i * 2) (by omega)
    have c1 := World.ownsRow.cellAt h0 (i * 2 + 1) (by omega)
    rw [(dpCells_at ps i hi').1] at c0
    rw [(dpCells_at ps i hi').2] at c1
    refine ⟨ps[i].2, ?_⟩
    rw [List.getElem_map, Nat.zero_add]
    exact ⟨c0, c1, (h.2 _ (List.getElem_mem hi')).at, hlt⟩
theorem OwnD.len {w : World} {B : Nat} {v : Value} {ps : List (Dp × Value)} (h : OwnD w B v ps) : ∃ ad cap, v = .slice ad ps.length cap := by
  rcases h.1.2 with ⟨rfl, hn⟩ | ⟨g, cap, cur, rfl, _⟩
  · exact ⟨none, 0, by rw [hn]⟩
  · exact ⟨_, cap, rfl⟩

/-- Lists of one's own in a row of one's own, no two of them at one place. -/
def RD (w : World) (B N : Nat) (rows : List (Value × List (Dp × Value))) : Prop :=
  w.ownsRow B 24 1 (.slice (some ⟨N, 0, none⟩) rows.length rows.length) rows.length (rows.map (·.1)) ∧ (∀ r ∈ rows, OwnD w B r.1 r.2) ∧
  ∀ i j (hi : i < rows.length) (hj : j < rows.length), i ≠ j → rows[i].1.ownBlock = rows[j].1.ownBlock → rows[i].1.ownBlock = none
theorem RD.below {w w' : World} {B N : Nat} {rows : List (Value × List (Dp × Value))} (h : RD w B N rows) (hb : Below w.heap.size w w') : RD w' B N rows := ⟨own_below h.1 hb, fun r hr => (h.2.1 r hr).below hb, h.2.2⟩
theorem keepRD (B N : Nat) (rows : List (Value × List (Dp × Value))) : KeepP fun w1 => RD w1 B N rows := fun _ _ h hb => h.below hb
theorem RD.start {w : World} {B N n : Nat} (h : w.ownsRow B 24 1 (.slice (some ⟨N, 0, none⟩) n n) n (List.replicate n (.slice none 0 0))) : RD w B N (List.replicate n (.slice none 0 0, [])) := by
  refine ⟨?_, ?_, ?_⟩
  · rw [List.length_replicate, List.map_replicate]; exact h
  · intro r hr
    obtain ⟨_, rfl⟩ := List.mem_replicate.1 hr
    exact OwnD.nil _ _
  · intro i j hi hj _ _
    simp [Value.ownBlock]
theorem RD.size {w : World} {B N : Nat} {rows : List (Value × List (Dp × Value))} (h : RD w B N rows) : B ≤ N ∧ N < w.heap.size := h.1.lt N rfl
theorem RD.cell {w : World} {B N : Nat} {rows : List (Value × List (Dp × Value))} (h : RD w B N rows) (k : Nat) (hk : k < rows.length) : w.cell? ⟨N, k, none⟩ = some rows[k].1 := by
  rw [World.ownsRow.cellAt h.1 k (by omega)]
  simp [hk]
theorem RD.frozen {w : World} {B N : Nat} {rows : List (Value × List (Dp × Value))} (h : RD w B N rows) (k : Nat) : w.frozen? ⟨N, k, none⟩ = false := World.ownsRow.frozenAt h.1 k

/-- A dependency put behind list k, and the list's slice put into its place. -/
theorem RD.app {w w1 : World} {B N : Nat} {rows : List (Value × List (Dp × Value))} (h : RD w B N rows) (k : Nat) (hk : k < rows.length) {d : Dp} {u v' : Value} (hu : OwnS w B u d.rg)
    (ho : w1.ownsRow B 60 2 v' (rows[k].2.length + 1) (dpCells rows[k].2 ++ [.string d.nm, u])) (hg : w.grownBy w1 rows[k].1.ownBlock) (hat : v'.ownBlock = rows[k].1.ownBlock ∨ v'.ownBlock = some w.heap.size) :
    RD (w1.setCell ⟨N, k, none⟩ v') B N (rows.set k (v', rows[k].2 ++ [(d, u)])) := by
  obtain ⟨h1, h2, h3⟩ := h
  have hrow := h2 _ (List.getElem_mem hk)
  -- the row of rows, and what else stays
  have k1 : w1.ownsRow B 24 1 (.slice (some ⟨N, 0, none⟩) rows.length rows.length) rows.length (rows.map (·.1)) := h1.kept hg (Or.inr fun e => own_ne h1 hrow.1 (by decide) rfl e.symm)
  obtain ⟨k2, _⟩ := k1.stored k v'
  have far : ∀ {v : Value} {e : TypeId} {z n : Nat} {xs : List Value}, w1.ownsRow B e z v n xs → e ≠ 24 → (w1.setCell ⟨N, k, none⟩ v').ownsRow B e z v n xs := by
    intro v e z n xs hv hne
    exact own_of hv fun g hg2 => Below.heap_setCell _ _ _ _ fun e2 => own_ne hv k1 hne hg2 (by rw [e2]; rfl)
  have spn : ∀ {v : Value} {L : List Sp}, OwnS w B v L → OwnS (w1.setCell ⟨N, k, none⟩ v') B v L := by
    intro v L hv
    refine far (World.ownsRow.kept hv hg ?_) (by decide)
    cases hb : v.ownBlock with
    | none => exact Or.inl rfl
    | some g => exact Or.inr fun e => own_ne hv hrow.1 (by decide) hb e.symm
  refine ⟨?_, ?_, ?_⟩
  · rw [List.length_set, List.map_set]; exact k2
  · intro r hr
    obtain ⟨i, hi, rfl⟩ := List.getElem_of_mem hr
    rw [List.length_set] at hi
    by_cases hik : i = k
    · subst hik
      rw [List.getElem_set_self]
      refine ⟨?_, ?_⟩
      · show (w1.setCell ⟨N, i, none⟩ v').ownsRow B 60 2 v' (rows[i].2 ++ [(d, u)]).length (dpCells (rows[i].2 ++ [(d, u)]))
        rw [dpCells_snoc, List.length_append]
        exact far ho (by decide)
      · intro p hp
        rcases List.mem_append.1 hp with hp | hp
        · exact spn (hrow.2 p hp)
        · obtain rfl : p = (d, u) := by simpa using hp
          exact spn hu
    · rw [List.getElem_set_ne (fun e => hik e.symm)]
      have hri := h2 _ (List.getElem_mem hi)
      refine ⟨far (hri.1.kept hg ?_) (by decide), fun p hp => spn (hri.2 p hp)⟩
      cases hb : rows[i].1.ownBlock with
      | none => exact Or.inl rfl
      | some g =>
        refine Or.inr fun e => ?_
        have := h3 i k hi hk hik (by rw [hb, ← e])
        rw [hb] at this
        cases this
  · intro i j hi0 hj0 hij he
    have hi : i < rows.length := by rw [List.length_set] at hi0; exact hi0
    have hj : j < rows.length := by rw [List.length_set] at hj0; exact hj0
    have old : ∀ m (hm : m < rows.length), ∀ g, rows[m].1.ownBlock = some g → g < w.heap.size := fun m hm g hg2 => ((h2 _ (List.getElem_mem hm)).1.lt g hg2).2
    by_cases hik : i = k
    · subst hik
      have hji : i ≠ j := hij
      rw [List.getElem_set_self] at he ⊢
      rw [List.getElem_set_ne hji] at he
      rcases hat with e | e
      · rw [show ((v', rows[i].2 ++ [(d, u)]) : Value × List (Dp × Value)).1 = v' from rfl, e] at he ⊢
        exact h3 i j hi hj hij he
      · rw [show ((v', rows[i].2 ++ [(d, u)]) : Value × List (Dp × Value)).1 = v' from rfl, e] at he
        have := old j hj _ he.symm
        omega
    · rw [List.getElem_set_ne (fun e => hik e.symm)] at he ⊢
      by_cases hjk : j = k
      · subst hjk
        rw [List.getElem_set_self] at he
        rcases hat with e | e
        · rw [show ((v', rows[j].2 ++ [(d, u)]) : Value × List (Dp × Value)).1 = v' from rfl, e] at he
          exact h3 i j hi hj hij he
        · rw [show ((v', rows[j].2 ++ [(d, u)]) : Value × List (Dp × Value)).1 = v' from rfl, e] at he
          have := old i hi _ he
          omega
      · rw [List.getElem_set_ne (fun e => hjk e.symm)] at he
        exact h3 i j hi hj hij he

/-- What lies in the lists. -/
def plainR (rows : List (Value × List (Dp × Value))) : List (List Dp) := rows.map fun r => r.2.map (·.1)
/-- The place of a word in a list of words. -/
def idxW : List Sc.Bs → Sc.Bs → Int
  | [], _ => -1
  | x :: X, s => if s = x then 0 else if idxW X s = -1 then -1 else idxW X s + 1
/-- A dependency that a line tells. -/
def lineDp (ln : List Sc.Bs) : Dp := ⟨Sc.ba (ln.getD 1 []), (parL (parR (jnT (ln.drop 2)))).map spR⟩
/-- What Read answers. -/
def readF (X : List Sc.Bs) : Nat → List (List Dp) → List (List Sc.Bs) → Int × List (List Dp)
  | _, acc, [] => (0, acc)
  | a, acc, ln :: r =>
    if ln.length < 3 then (22, []) else
    if idxW X (ln.getD 0 []) < (a : Int) then (22, []) else
    if depE (lastN (acc.getD (idxW X (ln.getD 0 [])).toNat [])) (Sc.ba (ln.getD 1 [])) (ln.drop 2) = 0 then
      readF X (idxW X (ln.getD 0 [])).toNat (acc.set (idxW X (ln.getD 0 [])).toNat (acc.getD (idxW X (ln.getD 0 [])).toNat [] ++ [lineDp ln])) r
    else (depE (lastN (acc.getD (idxW X (ln.getD 0 [])).toNat [])) (Sc.ba (ln.getD 1 [])) (ln.drop 2), [])
theorem idxW_lt : ∀ (X : List Sc.Bs) (s : Sc.Bs), idxW X s < (X.length : Int) ∧ -1 ≤ idxW X s
  | [], _ => by simp [idxW]
  | x :: X, s => by
    have := idxW_lt X s
    unfold idxW
    simp only [List.length_cons]
    split
    · omega
    · split <;> omega
end Go.Proofs.YthoacfmfpbngkaaGreatDoor
namespace Go.Proofs.YthoacfmfpbngkaaGreatDoor
open Go.RowKit
set_option maxRecDepth 100000

/-- Where a search stands. -/
def idxP (X : List Sc.Bs) (s : Sc.Bs) (k : Nat) : Prop := idxW X s = if idxW (X.drop k) s = -1 then -1 else idxW (X.drop k) s + (k : Int)
theorem idxP_zero (X : List Sc.Bs) (s : Sc.Bs) : idxP X s 0 := by
  unfold idxP
  rw [List.drop_zero]
  split
  · assumption
  · simp
theorem idxW_cons (x : Sc.Bs) (X : List Sc.Bs) (s : Sc.Bs) : idxW (x :: X) s = if s = x then 0 else if idxW X s = -1 then -1 else idxW X s + 1 := rfl
theorem idxP_hit {X : List Sc.Bs} {s : Sc.Bs} {k : Nat} (h : idxP X s k) (hk : k < X.length) (e : s = X[k]) : idxW X s = (k : Int) := by
  unfold idxP at h
  rw [List.drop_eq_getElem_cons hk, idxW_cons, if_pos e] at h
  rw [h, if_neg (by omega)]
  omega
theorem idxP_miss {X : List Sc.Bs} {s : Sc.Bs} {k : Nat} (h : idxP X s k) (hk : k < X.length) (e : s ≠ X[k]) : idxP X s (k + 1) := by
  unfold idxP at h ⊢
  rw [List.drop_eq_getElem_cons hk, idxW_cons, if_neg e] at h
  rw [h]
  have hb := (idxW_lt (X.drop (k + 1)) s).2
  by_cases h1 : idxW (X.drop (k + 1)) s = -1
  · rw [if_pos h1, if_pos h1, if_pos rfl]
  · rw [if_neg h1, if_neg h1, if_neg (by omega)]
    omega
theorem idxP_end {X : List Sc.Bs} {s : Sc.Bs} (h : idxP X s X.length) : idxW X s = -1 := by
  unfold idxP at h
  rw [List.drop_length] at h
  simpa [idxW] using h

set_option maxHeartbeats 1600000 in
theorem Index_any {X : List Sc.Bs} {v : Value} {w : World} (h : Sc.WordsAt w v X) (hl : X.length ≤ 1000000) (s : Sc.Bs) :
    Calls Tryz.prog 38 #[v, .string (Sc.ba s)] w fun e w' => e = .returned (.int .i64 (idxW X s)) ∧ w' = w := by
  obtain ⟨ad, cap, rfl, hc, hs⟩ := h
  have HS := hide3 hs
  clear hs
  have hts := ba_toList s
  have HI0 := hide3 (idxP_zero X s)
  go_enter Tryz.func38, Tryz.ntmps38
  go_wp2_with fail
  go_loopw [8] (fun i wr => ∃ k : Nat, k ≤ X.length ∧ i = .int .i64 k ∧ wr = w ∧ idxP X s k) (fun i _ => X.length - (intOf i).toNat)
  case atStart => exact ⟨0, Nat.zero_le _, rfl, rfl, HI0.out⟩
  case round =>
    obtain ⟨k, hk, rfl, rfl, hip⟩ := hrel
    have HIP := hide3 hip
    clear hip
    by_cases hlt : k < X.length
    · obtain ⟨g, o, rfl, hg, hcs⟩ : ∃ g o, ad = some ⟨g, o, none⟩ ∧ g < wr.heap.size ∧ ∀ i (h : i < X.length), wr.cell? ⟨g, o + i, none⟩ = some (.string (Sc.ba X[i])) := by
        rcases HS.out with h | h
        · rw [h] at hlt; simp at hlt
        · exact h
      have c0 := hcs k hlt
      have htk := ba_toList X[k]
      clear hcs
      by_cases e : s = X[k]
      · have HR := hide3 (idxP_hit HIP.out hlt e)
        have hq : ((Sc.ba s).toList == (Sc.ba X[k]).toList) = true := by rw [e]; simp
        clear hts htk
        go_wp2
        go_ret
        exact ⟨by rw [HR.out]; rfl, rfl⟩
      · have HR := hide3 (idxP_miss HIP.out hlt e)
        have hq : ((Sc.ba s).toList == (Sc.ba X[k]).toList) = false := by rw [hts, htk]; simpa using e
        clear hts htk
        go_wp2
        exact ⟨⟨k + 1, by omega, by go_num, by first | rfl | trivial, HR.out⟩, by simp [intOf]; omega⟩
    · obtain rfl : k = X.length := by omega
      have HR := hide3 (idxP_end HIP.out)
      go_wp2
      go_ret
      exact ⟨by rw [HR.out]; rfl, rfl⟩

/-- What the walk of Read keeps. -/
def KX (w : World) (N : Nat) (rows : List (Value × List (Dp × Value))) (w1 : World) : Prop := Below w.heap.size w w1 ∧ RD w1 w.heap.size N rows
theorem keepKX (w : World) (N : Nat) (rows : List (Value × List (Dp × Value))) : KeepP (KX w N rows) := (keepBelow w).and (keepRD _ _ _)
theorem infoDep : (Tryz.prog.info? 60).map (fun i => (i.zero, i.size, i.bytes)) = some (some (.agg #[.string ⟨#[]⟩, .slice none 0 0]), 2, 40) := by kernel_rfl
theorem infoDeps : (Tryz.prog.info? 24).map (fun i => (i.zero, i.size, i.bytes)) = some (some (.slice none 0 0), 1, 24) := by kernel_rfl

/-- What an append to list k leaves. -/
def AppK (w : World) (N : Nat) (rows : List (Value × List (Dp × Value))) (k : Nat) (d : Dp) (u v1 : Value) (w1 : World) : Prop :=
  KX w N (rows.set k (v1, rows[k]!.2 ++ [(d, u)])) (w1.setCell ⟨N, k, none⟩ v1) ∧ w1.cell? ⟨N, k, none⟩ = some rows[k]!.1 ∧ w1.frozen? ⟨N, k, none⟩ = false ∧ ∃ ad n cap, v1 = .slice ad n cap

/-- A dependency is put behind a list, in a region that draws its order. -/
theorem step_appD {w wx : World} {N : Nat} {rows : List (Value × List (Dp × Value))} {k : Nat} {d : Dp} {u : Value} {ops : Array Oper} {o : Oper} {f : Act} {K : Act → World → Prop} {Q : Exit → Act → World → Prop} {E : Prop} (hgd : o.guard = none) (s t : Operand)
    (ho : o.op = .call { callee := .builtin .append, args := #[s, t], argTypes := #[24, 24] }) {vk : Value} (hs : f.eval s = vk) (hk : k < rows.length) (hvk : rows[k]!.1 = vk)
    (hK : KX w N rows wx) (hu : OwnS wx w.heap.size u d.rg) {nm : ByteArray} (hnm : d.nm = nm) {M : Nat} (hM : wx.heap.size = M) (hx : f.eval t = .slice (some ⟨M, 0, none⟩) 1 1) (hlen : rows[k]!.2.length ≤ 1000000)
    (h : ∀ v1 w1, AppK w N rows k d u v1 w1 → K (f.put o.dst v1) w1) :
    if Region.wanted o (yielded ops f.tmps) = true then Oper.wp Tryz.prog o f (wx.alloc (.cells #[.string nm, u] 60)) K Q else E := by
  have hw : Region.wanted o (yielded ops f.tmps) = true := by simp [Region.wanted, hgd]
  rw [if_pos hw]
  subst hM hnm
  have erk : rows[k]! = rows[k] := getElem!_pos rows k hk
  rw [erk] at hvk hlen
  obtain ⟨i0, hi, hz0, hz1, hz2⟩ := Sc.info_parts infoDep
  have hKa := keepKX w N rows _ _ hK (boxB wx (.cells #[.string d.nm, u] 60))
  have hua := hu.below (boxB wx (.cells #[.string d.nm, u] 60))
  have hrow := hKa.2.2.1 _ (List.getElem_mem hk)
  have hsz : (wx.alloc (.cells #[.string d.nm, u] 60)).heap.size = wx.heap.size + 1 := by simp
  have hwx := hK.1.size
  obtain ⟨au, lu, cu, hus⟩ : ∃ au lu cu, u = .slice au lu cu := by
    obtain ⟨ad, cap, rfl, _⟩ := hu.sp
    exact ⟨_, _, _, rfl⟩
  have hown := hrow.1
  rw [hvk] at hown
  obtain ⟨v1, w1, hr, hown1, hg1, _, hat⟩ := run_append_own_at (P := Tryz.prog) (wx.alloc (.cells #[.string d.nm, u] 60)) w.heap.size 24 o.type 60 i0 _ 2 40 Tryz.underlying24 hi hz0 hz1 hz2 rfl (by decide) vk _ _ hown ⟨wx.heap.size, 0, none⟩ 1 1 [.string d.nm, u] rfl
    (World.news_of_block (cs := #[.string d.nm, u]) (t := 60) (fr := (0, 0)) (by show (wx.heap.push _)[wx.heap.size]? = _; rw [Array.getElem?_push, if_pos rfl])) (by rw [hus]; simp [Value.oneCell']) (by unfold maxLen; omega) (by omega) (by omega)
  unfold Oper.wp execOp
  simp only [ho, resolve, invoke, builtin, Sem.run_bind, Sem.run_pure, Result.andThen_ok, List.map_toArray, List.map_cons, List.map_nil, hs, hx, hr]
  rw [← hvk] at hg1 hat
  have hN := hKa.2.size
  have hNe : some N ≠ rows[k].1.ownBlock := fun e => own_ne hKa.2.1 hrow.1 (by decide) rfl e.symm
  have hblk := hg1.block N hN.2 hNe
  refine h v1 w1 ⟨⟨?_, ?_⟩, ?_, ?_, ?_⟩
  · exact (hKa.1.grown hg1 (by omega) (fun q hq => (hrow.1.lt q hq).1)).setCell (p := ⟨N, k, none⟩) hN.1 _
  · rw [erk]
    exact hKa.2.app k hk hua hown1 hg1 hat
  · rw [erk, World.cell?_of_block (a := ⟨N, k, none⟩) hblk]
    exact hKa.2.cell k hk
  · rw [World.frozen?_of_block (a := ⟨N, k, none⟩) hblk]
    exact hKa.2.frozen k
  · rcases hown1.2 with ⟨e, _⟩ | ⟨g, cap, cur, e, _⟩
    · exact ⟨_, _, _, e⟩
    · exact ⟨_, _, _, e⟩
end Go.Proofs.YthoacfmfpbngkaaGreatDoor
namespace Go.Proofs.YthoacfmfpbngkaaGreatDoor
open Go.RowKit
set_option maxRecDepth 100000

/-- Lines that are not too long. -/
def ShortLn (ln : List Sc.Bs) : Prop := ln.length ≤ 5000 ∧ (Lib.join (ln.drop 2) [32]).length ≤ 5000
/-- What Read answers, in memory. -/
def ReadQ (w : World) (R : Int × List (List Dp)) (e : Ending) (w' : World) : Prop := ∃ v, e = .returned (.tuple #[v, .int .i64 R.1]) ∧ Below w.heap.size w w' ∧ (R.1 = 0 → ∃ N rows, v = .slice (some ⟨N, 0, none⟩) rows.length rows.length ∧ RD w' w.heap.size N rows ∧ plainR rows = R.2) ∧ (R.1 ≠ 0 → v = .slice none 0 0)
theorem ReadQ.err {w w' : World} {R : Int × List (List Dp)} {er : Int} (hR : R.1 = er) (h0 : er ≠ 0) (hb : Below w.heap.size w w') : ReadQ w R (.returned (.tuple #[.slice none 0 0, .int .i64 er])) w' := by
  subst hR
  exact ⟨_, rfl, hb, fun h => absurd h h0, fun _ => rfl⟩
/-- Where the loop of Read stands. -/
def RelR (w : World) (X : List Sc.Bs) (Lns : List (List Sc.Bs)) (va vi : Value) (wr : World) : Prop :=
  ∃ (k a : Nat) (rows : List (Value × List (Dp × Value))), k ≤ Lns.length ∧ vi = .int .i64 k ∧ va = .int .i64 a ∧ rows.length = X.length ∧ (∀ r ∈ rows, r.2.length ≤ k) ∧ KX w w.heap.size rows wr ∧ readF X 0 (List.replicate X.length []) Lns = readF X a (plainR rows) (Lns.drop k)

theorem plainR_get {rows : List (Value × List (Dp × Value))} {k : Nat} (hk : k < rows.length) : (plainR rows).getD k [] = rows[k].2.map (·.1) := by
  unfold plainR
  rw [List.getD_eq_getElem?_getD, List.getElem?_map, List.getElem?_eq_getElem hk]
  rfl
theorem plainR_set {rows : List (Value × List (Dp × Value))} {k : Nat} (hk : k < rows.length) (v : Value) (d : Dp) (u : Value) : plainR (rows.set k (v, rows[k].2 ++ [(d, u)])) = (plainR rows).set k ((plainR rows).getD k [] ++ [d]) := by
  rw [plainR_get hk]
  unfold plainR
  rw [List.map_set]
  simp
theorem readF_short {X : List Sc.Bs} {a : Nat} {acc : List (List Dp)} {ln : List Sc.Bs} {r : List (List Sc.Bs)} (h : ln.length < 3) : (readF X a acc (ln :: r)).1 = 22 := by
  unfold readF
  rw [if_pos h]
theorem readF_word {X : List Sc.Bs} {a : Nat} {acc : List (List Dp)} {ln : List Sc.Bs} {r : List (List Sc.Bs)} (h : ¬ ln.length < 3) (h2 : idxW X (ln.getD 0 []) < (a : Int)) : (readF X a acc (ln :: r)).1 = 22 := by
  unfold readF
  rw [if_neg h, if_pos h2]
theorem readF_err {X : List Sc.Bs} {a : Nat} {acc : List (List Dp)} {ln : List Sc.Bs} {r : List (List Sc.Bs)} {k : Nat} (h : ¬ ln.length < 3) (h2 : idxW X (ln.getD 0 []) = (k : Int)) (h3 : a ≤ k) {er : Int} (h4 : depE (lastN (acc.getD k [])) (Sc.ba (ln.getD 1 [])) (ln.drop 2) = er) (h0 : er ≠ 0) : (readF X a acc (ln :: r)).1 = er := by
  unfold readF
  rw [if_neg h, h2, if_neg (by omega), Int.toNat_natCast, h4, if_neg h0]
theorem readF_step {X : List Sc.Bs} {a : Nat} {acc : List (List Dp)} {ln : List Sc.Bs} {r : List (List Sc.Bs)} {k : Nat} (h : ¬ ln.length < 3) (h2 : idxW X (ln.getD 0 []) = (k : Int)) (h3 : a ≤ k) (h4 : depE (lastN (acc.getD k [])) (Sc.ba (ln.getD 1 [])) (ln.drop 2) = 0) : readF X a acc (ln :: r) = readF X k (acc.set k (acc.getD k [] ++ [lineDp ln])) r := by
  conv => lhs; unfold readF
  rw [if_neg h, h2, if_neg (by omega), Int.toNat_natCast, if_pos h4]

theorem far2 {w : World} {N : Nat} {x y v : Value} {a : Addr} (h : a.block ≠ N) (hc : w.cell? a = some v) : ((w.setCell ⟨N, 0, none⟩ x).setCell ⟨N, 1, none⟩ y).cell? a = some v :=
  (World.cell?_setCell_other _ _ _ _ (fun e => h (by rw [← e]))).trans ((World.cell?_setCell_other _ _ _ _ (fun e => h (by rw [← e]))).trans hc)

set_option maxHeartbeats 6400000 in
theorem Read_any {X : List Sc.Bs} {Lns : List (List Sc.Bs)} {vl vx : Value} {w : World} (hl : Sc.LinesAt w vl Lns) (hx : Sc.WordsAt w vx X) (hX : X.length ≤ 16) (hn : Lns.length ≤ 5000) (hs : ∀ ln ∈ Lns, ShortLn ln) (he : Env w) (hf : FL w) :
    Calls Tryz.prog 22 #[vl, vx] w (ReadQ w (readF X 0 (List.replicate X.length []) Lns)) := by
  have HIX : Hid (∀ w1 s, Below w.heap.size w w1 → Calls Tryz.prog 38 #[vx, .string (Sc.ba s)] w1 fun e w' => e = .returned (.int .i64 (idxW X s)) ∧ w' = w1) := fun w1 s hb => Index_any (hx.below hb) (by omega) s
  have HIL := hide3 (idxW_lt X)
  have HRD : Hid (∀ w1 (n : ByteArray) vw va (ws : List Sc.Bs) (A : List Dp), Below w.heap.size w w1 → Sc.WordsAt w1 vw ws → ws ≠ [] → ws.length ≤ 5000 → (Lib.join ws [32]).length ≤ 5000 → DepsAt w1 va A → A.length ≤ 10000 → Calls Tryz.prog 39 #[.string n, vw, va] w1 (DepQ w1 n ws (depE (lastN A) n ws))) := fun w1 n vw va ws A hb h1 h2 h3 h4 h5 h6 => readDep_any h1 h2 (by omega) (by omega) h5 (by omega) (he.below hb) (hf.below hb)
  have HLN : Hid (∀ w1, Below w.heap.size w w1 → Sc.LinesAt w1 vl Lns) := fun w1 hb => hl.below hb
  have HS := hide3 hs
  have HER : Hid (∀ er w', (readF X 0 (List.replicate X.length []) Lns).1 = er → er ≠ 0 → Below w.heap.size w w' → ReadQ w (readF X 0 (List.replicate X.length []) Lns) (.returned (.tuple #[.slice none 0 0, .int .i64 er])) w') := fun er w' h1 h2 h3 => ReadQ.err h1 h2 h3
  have HOK : Hid (∀ (rows : List (Value × List (Dp × Value))) w', rows.length = X.length → KX w w.heap.size rows w' → readF X 0 (List.replicate X.length []) Lns = (0, plainR rows) → ReadQ w (readF X 0 (List.replicate X.length []) Lns) (.returned (.tuple #[.slice (some ⟨w.heap.size, 0, none⟩) X.length X.length, .int .i64 0])) w') := fun rows w' h0 h1 h2 => by
    rw [h2]
    exact ⟨_, rfl, h1.1, fun _ => ⟨w.heap.size, rows, by rw [h0], h1.2, rfl⟩, fun h => absurd rfl h⟩
  obtain ⟨adl, capl, rfl, hcl, _⟩ := hl
  obtain ⟨adx, capx, rfl, hcx, _⟩ := hx
  obtain ⟨i0, hi, hz0, hz1, hz2⟩ := Sc.info_parts infoDeps
  clear hs he hf
  have HRF : Hid (readF X 0 (List.replicate X.length []) Lns = readF X 0 (plainR (List.replicate X.length (.slice none 0 0, []))) (Lns.drop 0)) := by
    unfold Hid plainR
    rw [List.map_replicate, List.drop_zero]
    rfl
  generalize hFR : readF X 0 (List.replicate X.length []) Lns = FR at *
  clear hFR
  generalize hQ : ReadQ w FR = RQ at *
  clear hQ
  go_enter Tryz.func22, Tryz.ntmps22
  go_wp2_with (at_make; refine wpList_make_full _ rfl _ _ 41 rfl w.heap.size 24 i0 _ 1 Tryz.underlying41 hi hz0 hz1 .i64 .i64 _ _ X.length rfl rfl rfl rfl (by rw [hz2]; omega) (by unfold maxLen; omega) (Nat.le_refl _) ?_; intro w1 hown1 hg1; have HK1 : Hid (KX w w.heap.size (List.replicate X.length (.slice none 0 0, [])) w1) := ⟨(Below.refl _ _).grown hg1 (Nat.le_refl _) (fun q hq => by cases hq), RD.start (by rw [Nat.mul_one] at hown1; rw [show (Value.slice none 0 0).cells = #[Value.slice none 0 0] from rfl, toList_madeCells_one] at hown1; exact hown1)⟩; clear hown1 hg1)
  go_loopw [7, 18] (fun va vi wr => ∃ (k a : Nat) (rows : List (Value × List (Dp × Value))), k ≤ Lns.length ∧ vi = .int .i64 k ∧ va = .int .i64 a ∧ rows.length = X.length ∧ (∀ r ∈ rows, r.2.length ≤ k) ∧ KX w w.heap.size rows wr ∧ FR = readF X a (plainR rows) (Lns.drop k)) (fun _ i _ => Lns.length - (intOf i).toNat)
  case atStart => exact ⟨0, 0, _, Nat.zero_le _, rfl, rfl, List.length_replicate .., (fun r hr => by obtain ⟨_, rfl⟩ := List.mem_replicate.1 hr; exact Nat.le_refl _), HK1.out, HRF.out⟩
  case round =>
    clear HK1 HRF
    obtain ⟨k, a, rows, hk, rfl, rfl, hrl, hrk, hkx, hrf⟩ := hrel
    have HKX := hide3 hkx
    have HRK := hide3 hrk
    by_cases hlt : k < Lns.length
    · obtain ⟨ad2, cap2, e2, _, hcs⟩ := HLN.out wr hkx.1
      cases e2
      obtain ⟨gl, ol, rfl, hgl, hcs⟩ : ∃ g o, adl = some ⟨g, o, none⟩ ∧ g < wr.heap.size ∧ ∀ i (h : i < Lns.length), ∃ u, wr.cell? ⟨g, o + i, none⟩ = some u ∧ Sc.WordsAt wr u Lns[i] := by
        rcases hcs with h | h
        · rw [h] at hlt; simp at hlt
        · exact h
      obtain ⟨u, cl, hwu⟩ := hcs k hlt
      have hsl := HS.out _ (List.getElem_mem hlt)
      rw [List.drop_eq_getElem_cons hlt] at hrf
      clear hcs hrk hkx
      obtain ⟨adu, capu, rfl, hcu, hwc⟩ := hwu
      generalize Lns[k] = ln at *
      by_cases h3 : ln.length < 3
      · have HR : Hid (FR.1 = 22) := by unfold Hid; rw [hrf]; exact readF_short h3
        have h3i : decide ((ln.length : Int) < 3) = true := decide_eq_true (by omega)
        clear hrf hwc hsl
        go_wp2
        exact HER.out 22 _ HR.out (by decide) HKX.out.1
      · obtain ⟨p0, p1, rest, rfl⟩ : ∃ p0 p1 rest, ln = p0 :: p1 :: rest := by
          match ln, h3 with
          | [], h => exact absurd (by simp) h
          | [_], h => exact absurd (by simp) h
          | p0 :: p1 :: rest, _ => exact ⟨_, _, _, rfl⟩
        have hrne : rest ≠ [] := by
          intro e
          subst e
          exact h3 (by simp)
        obtain ⟨gw, ow, rfl, hgw, hwc⟩ : ∃ g o, adu = some ⟨g, o, none⟩ ∧ g < wr.heap.size ∧ ∀ i (h : i < (p0 :: p1 :: rest).length), wr.cell? ⟨g, o + i, none⟩ = some (.string (Sc.ba (p0 :: p1 :: rest)[i])) := by
          rcases hwc with h | h
          · cases h
          · exact h
        have c0 : wr.cell? ⟨gw, ow, none⟩ = some (.string (Sc.ba p0)) := hwc 0 (by simp)
        have c1 : wr.cell? ⟨gw, ow + 1, none⟩ = some (.string (Sc.ba p1)) := hwc 1 (by simp)
        have HWR : Hid (∀ w1, Below wr.heap.size wr w1 → Sc.WordsAt w1 (.slice (some ⟨gw, ow + 2, none⟩) rest.length (capu - 2)) rest) := fun w1 hb => by
          refine Sc.WordsAt.below (w := wr) ⟨_, _, rfl, by simp at hcu; omega, Or.inr ⟨gw, ow + 2, rfl, hgw, fun i hi => ?_⟩⟩ hb
          have := hwc (i + 2) (by simp; omega)
          simpa [Nat.add_assoc, Nat.add_comm 2 i] using this
        have hnl : (p0 :: p1 :: rest).length = rest.length + 2 := rfl
        rw [hnl] at hcu h3 cl
        have h3i : decide ((rest.length : Int) + 2 < 3) = false := decide_eq_false (by omega)
        have hb0 : (0 : Int) < (rest.length : Int) + 2 := by omega
        have hb1 : (1 : Int) < (rest.length : Int) + 2 := by omega
        have hb2 : (2 : Int) ≤ (rest.length : Int) + 2 := by omega
        have hb3 : (rest.length : Int) + 2 ≤ (capu : Int) := by omega
        have hc2 : ¬ (capu = 2) := by have : rest.length ≠ 0 := fun e => hrne (List.eq_nil_of_length_eq_zero e); omega
        have hrl0 : 0 < rest.length := Nat.pos_of_ne_zero fun e => hrne (List.eq_nil_of_length_eq_zero e)
        have hix := HIL.out p0
        have HI0 : Hid (∀ w1, Below w.heap.size w w1 → Calls Tryz.prog 38 #[.slice adx X.length capx, .string (Sc.ba p0)] w1 fun e w' => e = .returned (.int .i64 (idxW X p0)) ∧ w' = w1) := fun w1 hb => HIX.out w1 p0 hb
        clear hwc
        by_cases hia : idxW X p0 < (a : Int)
        · have HR : Hid (FR.1 = 22) := by unfold Hid; rw [hrf]; exact readF_word (by simp; omega) hia
          clear hrf hsl
          generalize idxW X p0 = ix at *
          go_wp2_with (go_at_call 38; refine (HI0.out _ HKX.out.1).mono ?_; rintro e w2 ⟨rfl, rfl⟩)
          exact HER.out 22 _ HR.out (by decide) HKX.out.1
        · obtain ⟨kk, hkk⟩ : ∃ kk : Nat, idxW X p0 = (kk : Int) := ⟨(idxW X p0).toNat, by omega⟩
          rw [hkk] at HI0 hix hia
          have hak : a ≤ kk := by omega
          have hkr : kk < rows.length := by omega
          have hkX : (kk : Int) < (X.length : Int) := by omega
          have cN : wr.cell? ⟨w.heap.size, kk, none⟩ = some rows[kk].1 := HKX.out.2.cell kk hkr
          have HPG := hide3 (plainR_get hkr)
          have HDA : Hid (∀ w1, Below wr.heap.size wr w1 → DepsAt w1 rows[kk].1 (rows[kk].2.map (·.1))) := fun w1 hb => ((HKX.out.2.2.1 _ (List.getElem_mem hkr)).at).below hb
          have hrkk : rows[kk].2.length ≤ 5000 := Nat.le_trans (HRK.out _ (List.getElem_mem hkr)) (by omega)
          obtain ⟨adk, capk, hvk⟩ := (HKX.out.2.2.1 _ (List.getElem_mem hkr)).len
          have HRD2 : Hid (∀ w1, Below wr.heap.size wr w1 → Calls Tryz.prog 39 #[.string (Sc.ba p1), .slice (some ⟨gw, ow + 2, none⟩) rest.length (capu - 2), rows[kk].1] w1 (DepQ w1 (Sc.ba p1) rest (depE (lastN (rows[kk].2.map (·.1))) (Sc.ba p1) rest))) := fun w1 hb => HRD.out w1 _ _ _ _ _ (below_then HKX.out.1 hb) (HWR.out w1 hb) hrne (by have := hsl.1; simp at this; omega) hsl.2 (HDA.out w1 hb) (by rw [List.length_map]; omega)
          have HVK := hide3 hvk
          rw [hvk] at cN HRD2
          have gwb := cell_in c0
          have hNb := HKX.out.2.size
          have HFE : Hid (depE (lastN (rows[kk].2.map (·.1))) (Sc.ba p1) rest ≠ 0 → FR.1 = depE (lastN (rows[kk].2.map (·.1))) (Sc.ba p1) rest) := fun her => by rw [hrf]; exact readF_err (k := kk) (by simp; omega) hkk hak (by rw [HPG.out]; rfl) her
          have HFS : Hid (depE (lastN (rows[kk].2.map (·.1))) (Sc.ba p1) rest = 0 → ∀ v u, FR = readF X kk (plainR (rows.set kk (v, rows[kk].2 ++ [(lineDp (p0 :: p1 :: rest), u)]))) (Lns.drop (k + 1))) := fun her v u => by rw [hrf, plainR_set hkr]; exact readF_step (k := kk) (by simp; omega) hkk hak (by rw [HPG.out]; exact her)
          have HLD : Hid ((lineDp (p0 :: p1 :: rest)).nm = Sc.ba p1 ∧ (lineDp (p0 :: p1 :: rest)).rg = (parL (parR (jnT rest))).map spR) := ⟨rfl, rfl⟩
          have HDQ : Hid (∀ w1 er e w', DepQ w1 (Sc.ba p1) rest er e w' → ∃ nm ad len cap, e = .returned (.tuple #[.agg #[.string nm, .slice ad len cap], .int .i64 er]) ∧ Below w1.heap.size w1 w' ∧ (er = 0 → nm = Sc.ba p1 ∧ OwnS w' w1.heap.size (.slice ad len cap) (lineDp (p0 :: p1 :: rest)).rg)) := fun w1 er e w' h => by
            obtain ⟨nm, ad, len, cap, h1, h2, h3, _⟩ := h
            exact ⟨nm, ad, len, cap, h1, h2, h3⟩
          clear hrf hsl HDA HWR HPG
          have hgne : gw ≠ wr.heap.size := by have := gwb; simp only at this; omega
          have hNne : w.heap.size ≠ wr.heap.size := by have := hNb.2; omega
          generalize depE (lastN (rows[kk].2.map (·.1))) (Sc.ba p1) rest = de at *
          generalize lineDp (p0 :: p1 :: rest) = LD at *
          go_upto_region 12 with (first | (go_at_call 38; refine (HI0.out _ HKX.out.1).mono ?_; rintro e w2 ⟨rfl, hw2⟩; obtain rfl : wr = w2 := hw2.symm))
          go_cut [7, 11, 12, 18] from 18 to 60 (fun s7 s11 s12 s18 wx => ∃ M nm ad5 len5 cap5, s7 = .int .i64 (kk : Int) ∧ s18 = .int .i64 (k : Int) ∧ s12 = .int .i64 de ∧ s11 = .pointer (some ⟨M, 0, none⟩) ∧ BxD wx M nm (.slice ad5 len5 cap5) ∧ Below wr.heap.size wr wx ∧ (de = 0 → nm = Sc.ba p1 ∧ OwnS wx w.heap.size (.slice ad5 len5 cap5) LD.rg))
          case first =>
            go_region_held3 (fun w' => w'.cell? ⟨gw, ow + 1, none⟩ = some (.string (Sc.ba p1)) ∧ w'.cell? ⟨w.heap.size, kk, none⟩ = some (.slice adk rows[kk].2.length capk)) (first | exact ⟨far2 hgne c1', far2 hNne cN'⟩ | go_keep)
              (first
                | (go_at_call 39; refine (HRD2.out _ (Below.refl _ _).drew).mono ?_; rintro e w5 hdq; obtain ⟨nm5, ad5, len5, cap5, rfl, hb5, ho5⟩ := HDQ.out _ _ _ _ hdq; have HB5 : Hid (Below wr.heap.size wr w5) := below_then (Below.refl _ _).drew hb5; have HO5 := hide3 ho5; have c1' : w5.cell? ⟨gw, ow + 1, none⟩ = some (.string (Sc.ba p1)) := (hb5.cell (p := ⟨gw, ow + 1, none⟩) gwb).trans c1; have cN' : w5.cell? ⟨w.heap.size, kk, none⟩ = some (.slice adk rows[kk].2.length capk) := (hb5.cell (p := ⟨w.heap.size, kk, none⟩) hNb.2).trans cN; clear hb5 ho5 hdq)
                | (go_at_call 39; refine (HRD2.out _ (boxB _ _).drew).mono ?_; rintro e w5 hdq; obtain ⟨nm5, ad5, len5, cap5, rfl, hb5, ho5⟩ := HDQ.out _ _ _ _ hdq; have HB5 : Hid (Below wr.heap.size wr w5) := below_then (boxB _ _).drew hb5; have HO5 := hide3 ho5; have HX5 : Hid (BxDF w5 wr.heap.size ⟨#[]⟩ (.slice none 0 0)) := keepBxDF _ _ _ _ _ ((keepBxDF _ _ _).drew (BxDF.new rfl _ _)) hb5; obtain ⟨⟨b0, b1, b2⟩, b3, b4⟩ := HX5.out; have c1' : w5.cell? ⟨gw, ow + 1, none⟩ = some (.string (Sc.ba p1)) := (HB5.out.cell (p := ⟨gw, ow + 1, none⟩) gwb).trans c1; have cN' : w5.cell? ⟨w.heap.size, kk, none⟩ = some (.slice adk rows[kk].2.length capk) := (HB5.out.cell (p := ⟨w.heap.size, kk, none⟩) hNb.2).trans cN; clear hb5 ho5 hdq))
            all_goals go_wp2_with fail
            all_goals go_meet
            all_goals first
              | exact ⟨w5.heap.size, nm5, ad5, len5, cap5, rfl, rfl, rfl, rfl, BxD.new rfl _ _, below_then HB5.out (boxB _ _), fun h => ⟨(HO5.out h).1, ((HO5.out h).2.base HKX.out.1.size).below (boxB _ _)⟩⟩
              | exact ⟨wr.heap.size, nm5, ad5, len5, cap5, rfl, rfl, rfl, rfl, ⟨(set2 b0 b1).2.2.1 _ _, (set2 b0 b1).2.2.2 _ _, by simpa using b2⟩, below_set2 (Nat.le_refl _) HB5.out, fun h => ⟨(HO5.out h).1, (((HO5.out h).2.base (by have := HKX.out.1.size; simp; omega)).set (fun e => by have := ((HO5.out h).2.lt e).2; simp at this; omega) 0 _).set (fun e => by have := ((HO5.out h).2.lt e).2; simp at this; omega) 1 _⟩⟩
          case rest =>
            obtain ⟨M, nm, ad5, len5, cap5, rfl, rfl, rfl, rfl, hbx, hbl, hok⟩ := hcut
            have HBX := hide3 hbx
            have HBL := hide3 hbl
            have HKC := hide3 (keepKX _ _ _ _ _ HKX.out hbl)
            clear hbx hbl
            by_cases her : de = 0
            · obtain ⟨hnm, hou⟩ := hok her
              subst hnm
              have HOU := hide3 hou
              have HS2 := hide3 (HFS.out her)
              have erk : rows[kk]! = rows[kk] := getElem!_pos rows kk hkr
              have hNk : wc.cell? ⟨w.heap.size, kk, none⟩ = some (.slice adk rows[kk].2.length capk) := by rw [HKC.out.2.cell kk hkr, HVK.out]
              obtain ⟨m0, m1, m2⟩ := HBX.out
              have hNk' : (wc.alloc (.cells #[.string (Sc.ba p1), .slice ad5 len5 cap5] 60)).cell? ⟨w.heap.size, kk, none⟩ = some (.slice adk rows[kk].2.length capk) := ((boxB wc _).cell (p := ⟨w.heap.size, kk, none⟩) (HKC.out.2.size).2).trans hNk
              subst her
              clear hok hou HFS HFE
              go_upto_region 15 with fail
              go_region_law (refine step_appD (w := w) (wx := wc.drew) (N := w.heap.size) (rows := rows) (k := kk) (d := LD) (u := .slice ad5 len5 cap5) rfl (.tmp 55) (.tmp 57) rfl (vk := .slice adk rows[kk].2.length capk) rfl hkr (by rw [erk]; exact HVK.out) ((keepKX _ _ _).drew HKC.out) (HOU.out.below (Below.refl _ _).drew) HLD.out.1 rfl rfl (by rw [erk]; omega) ?_; intro v6 w6 hak6; obtain ⟨hk6, n0, n1, ad6, len6, cap6, rfl⟩ := hak6; rw [erk] at hk6 n0; rw [HVK.out] at n0; have HK6 := hide3 hk6; clear hk6)
              all_goals go_wp2
              all_goals exact ⟨⟨k + 1, kk, _, by omega, by go_num, rfl, (List.length_set ..).trans hrl, (fun r hr => by
                rcases List.mem_or_eq_of_mem_set hr with h | rfl
                · exact Nat.le_succ_of_le (HRK.out r h)
                · simp only [List.length_append, List.length_cons, List.length_nil]
                  exact Nat.succ_le_succ (HRK.out _ (List.getElem_mem hkr))), HK6.out, HS2.out _ _⟩, by simp [intOf]; omega⟩
            · have HR := hide3 (HFE.out her)
              have hde : (de == 0) = false := by simpa using her
              go_wp2
              exact HER.out de _ HR.out her HKC.out.1
    · have hke : k = Lns.length := by omega
      subst hke
      rw [List.drop_length] at hrf
      have HR : Hid (FR = (0, plainR rows)) := by unfold Hid; rw [hrf]; rfl
      clear hrf hrk hkx
      go_wp2
      exact HOK.out rows _ hrl HKX.out HR.out
end Go.Proofs.YthoacfmfpbngkaaGreatDoor
namespace Go.Proofs.YthoacfmfpbngkaaGreatDoor
open Go.RowKit
set_option maxRecDepth 100000

theorem catLd (a b : ByteArray) : (a ++ b).data.toList = a.data.toList ++ b.data.toList := by simp
theorem catZd (a b : ByteArray) : (a ++ b).size = a.size + b.size := by simp
theorem par_range0 {t : ByteArray} (h : parE (parR t) = 0) : rangeB ((parL (parR t)).map spR) = decide (0 < ((parL (parR t)).map spR).length) := by
  have hm : mayL ((parL (parR t)).map spR) = true := by
    cases hp : parR t with
    | none => rw [hp] at h; cases h
    | some R =>
      rw [hp] at h
      have hR : RangeR R := by
        unfold parR at hp
        split at hp
        · exact altR_rg hp
        · cases hp
      exact may_iff.2 ⟨fitR R, rfl, fit_ok hR, fit_len R⟩
  unfold rangeB
  rw [hm, Bool.and_true]
theorem depE_is (q : Option ByteArray) (n : ByteArray) (ws : List Sc.Bs) : depE q n ws = if followB q n = true then (if parE (parR (jnT ws)) = 0 ∧ 0 < ((parL (parR (jnT ws))).map spR).length then 0 else 21) else 23 := by
  unfold depE
  by_cases h : parE (parR (jnT ws)) = 0
  · rw [par_range0 h]
    simp only [decide_eq_true_eq]
  · simp only [h, false_and]
theorem follow_is (q : Option ByteArray) (n : ByteArray) : followB q n = (Sc.nameA n.data.toList && (match q with | none => true | some p => ltS p n)) := by
  unfold followB
  cases q <;> rfl
/-- What the document's Dep answers. -/
def rdepE (q : Option ByteArray) (ln : List Sc.Bs) : Int := if ln.length < 3 then 22 else depE q (Sc.ba (ln.getD 1 [])) (ln.drop 2)

set_option maxHeartbeats 1000000 in
theorem rDep_short {n0 : ByteArray} {ws : List Sc.Bs} {ad : Option Addr} {n cap : Nat} {last : ByteArray} {w : World} (h : n < 3) :
    Calls Tryz.prog 28 #[.slice ad n cap, .string last] w (DepQ w n0 ws 22) := by
  have HER : Hid (∀ w', Below w.heap.size w w' → DepQ w n0 ws 22 (.returned (.tuple #[.agg #[.string ⟨#[]⟩, .slice none 0 0], .int .i64 22])) w') := fun w' hb => DepQ.err (by decide) hb
  generalize DepQ w n0 ws 22 = HQ at *
  have h3 : decide ((n : Int) < 3) = true := decide_eq_true (by omega)
  go_enter Tryz.func28, Tryz.ntmps28
  go_wp2
  try simp only [Exit.inBlock, Exit.then]
  refine bodyPost_ret (by simp [results, Tryz.results28, go_sem]; try rfl) rfl ?_
  exact HER.out _ (boxB _ _)

set_option maxHeartbeats 6400000 in
theorem rDep_long {p1 x : Sc.Bs} {r : List Sc.Bs} {gw ow n cap : Nat} {q : Option ByteArray} {last : ByteArray} {w : World} (hn : n = r.length + 3) (hg : gw < w.heap.size) (c1 : w.cell? ⟨gw, ow + 1, none⟩ = some (.string (Sc.ba p1))) (c2 : w.cell? ⟨gw, ow + 2, none⟩ = some (.string (Sc.ba x)))
    (cr : ∀ i (h : i < r.length), w.cell? ⟨gw, ow + (i + 3), none⟩ = some (.string (Sc.ba r[i]))) (hr : r.length ≤ 5000) (hj : (Lib.join (x :: r) [32]).length ≤ 5000) (hp : p1.length ≤ 1000000) (hq : last = q.getD ⟨#[]⟩) (hq0 : ∀ s, q = some s → s.size ≠ 0) (hlz : last.size ≤ 1000000) :
    Calls Tryz.prog 28 #[.slice (some ⟨gw, ow, none⟩) n cap, .string last] w (DepQ w (Sc.ba p1) (x :: r) (depE q (Sc.ba p1) (x :: r))) := by
  have HN : Hid (∀ w1, Calls Tryz.prog 12 #[.string (Sc.ba p1)] w1 fun e w' => e = .returned (.bool (Sc.nameA p1)) ∧ w' = w1) := fun w1 => by have := Sc.rName_any (Sc.ba p1) (by rw [Sc.ba_size]; omega) w1; rw [Sc.ba_list] at this; exact this
  have HL : Hid (∀ w1, Calls Tryz.prog 49 #[.string last, .string (Sc.ba p1)] w1 fun e w' => e = .returned (.bool (ltS last (Sc.ba p1))) ∧ Below w1.heap.size w1 w') := fun w1 => rLess_any _ _ w1 (by omega)
  have HPA : Hid (∀ w1, Calls Tryz.prog 50 #[.string (jnT (x :: r))] w1 fun e w' => ∃ v, e = .returned (.tuple #[v, .int .i64 (parE (parR (jnT (x :: r))))]) ∧ OwnS w' w1.heap.size v ((parL (parR (jnT (x :: r)))).map spR) ∧ Below w1.heap.size w1 w') := fun w1 => rParse3_all _ w1
  have HFO : Hid (followB q (Sc.ba p1) = (Sc.nameA p1 && (last.toList == [] || ltS last (Sc.ba p1)))) := by
    unfold Hid
    rw [follow_is, Sc.ba_list, hq]
    cases hqq : q with
    | none => simp [ByteArray.toList_eq]
    | some s =>
      have hs : (s.toList == []) = false := by
        rw [beq_eq_false_iff_ne, ByteArray.toList_eq]
        intro e
        exact hq0 s hqq (by rw [← list_size, e]; rfl)
      simp [hs]
  have HDE := hide3 (depE_is q (Sc.ba p1) (x :: r))
  have HER : Hid (∀ (er : Int) w', depE q (Sc.ba p1) (x :: r) = er → er ≠ 0 → Below w.heap.size w w' → DepQ w (Sc.ba p1) (x :: r) (depE q (Sc.ba p1) (x :: r)) (.returned (.tuple #[.agg #[.string ⟨#[]⟩, .slice none 0 0], .int .i64 er])) w') := fun er w' h1 h hb => by rw [h1]; exact DepQ.err h hb
  have HOK : Hid (∀ ad len cap w', depE q (Sc.ba p1) (x :: r) = 0 → Below w.heap.size w w' → OwnS w' w.heap.size (.slice ad len cap) ((parL (parR (jnT (x :: r)))).map spR) → DepQ w (Sc.ba p1) (x :: r) (depE q (Sc.ba p1) (x :: r)) (.returned (.tuple #[.agg #[.string (Sc.ba p1), .slice ad len cap], .int .i64 0])) w') := fun ad len cap w' h1 hb h => by rw [h1]; exact DepQ.ok hb h
  have HTX : Hid (∀ T : ByteArray, T.data.toList = x ++ Lib.joinTail [32] r → T = jnT (x :: r)) := fun T hT => same_list (by rw [hT]; unfold jnT; rw [Lib.join_cons])
  have HTL : Hid (∀ k, (x ++ Lib.joinTail [32] (r.take k)).length ≤ 5000) := fun k => by
    rw [Lib.join_cons] at hj
    have := Lib.joinTail_take_le [32] r k
    simp only [List.length_append] at *
    omega
  have HXL : Hid (∀ i (h : i < r.length), r[i].length ≤ 5000) := fun i h => by
    have h1 := HTL.out (i + 1)
    rw [Lib.joinTail_take_succ [32] r i r[i] (List.getElem?_eq_getElem h)] at h1
    simp only [List.length_append] at h1
    omega
  have HCR : Hid (∀ w1, Below w.heap.size w w1 → ∀ i (h : i < r.length), w1.cell? ⟨gw, ow + (i + 3), none⟩ = some (.string (Sc.ba r[i]))) := fun w1 hb i h => (hb.cell (p := ⟨gw, ow + (i + 3), none⟩) hg).trans (cr i h)
  have HC1 : Hid (∀ w1, Below w.heap.size w w1 → w1.cell? ⟨gw, ow + 1, none⟩ = some (.string (Sc.ba p1))) := fun w1 hb => (hb.cell (p := ⟨gw, ow + 1, none⟩) hg).trans c1
  have HC2 : Hid (∀ w1, Below w.heap.size w w1 → w1.cell? ⟨gw, ow + 2, none⟩ = some (.string (Sc.ba x))) := fun w1 hb => (hb.cell (p := ⟨gw, ow + 2, none⟩) hg).trans c2
  have HB0 : Hid (Below w.heap.size w (w.alloc (.cells #[.string ⟨#[]⟩, .slice none 0 0] 60)) ∧ BxDF (w.alloc (.cells #[.string ⟨#[]⟩, .slice none 0 0] 60)) w.heap.size ⟨#[]⟩ (.slice none 0 0)) := ⟨boxB _ _, BxDF.new rfl _ _⟩
  have HKB : Hid (KeepP fun w1 => Below w.heap.size w w1 ∧ BxDF w1 w.heap.size ⟨#[]⟩ (.slice none 0 0)) := (keepBelow w).and (keepBxDF _ _ _)
  have hn1 : (1 : Int) < (n : Int) := by omega
  have hn2 : (2 : Int) < (n : Int) := by omega
  have hn3 : decide ((n : Int) < 3) = false := decide_eq_false (by omega)
  have c1' := HC1.out _ HB0.out.1
  have c2' := HC2.out _ HB0.out.1
  clear cr hj hq hq0 c1 c2
  generalize hHQ : DepQ w (Sc.ba p1) (x :: r) (depE q (Sc.ba p1) (x :: r)) = HQ at *
  clear hHQ
  generalize depE q (Sc.ba p1) (x :: r) = de at *
  generalize followB q (Sc.ba p1) = fo at *
  generalize Sc.nameA p1 = nb at *
  generalize ltS last (Sc.ba p1) = lb at *
  generalize (parL (parR (jnT (x :: r)))).map spR = X at *
  generalize parE (parR (jnT (x :: r))) = er at *
  generalize jnT (x :: r) = tx at *
  generalize hP1 : Sc.ba p1 = s1 at *
  clear hP1
  cases nb
  · have hd : de = 23 := by rw [HDE.out, HFO.out]; rfl
    go_enter Tryz.func28, Tryz.ntmps28
    go_wp2_with (go_at_call 12; refine (HN.out _).mono ?_; rintro e w1 ⟨rfl, rfl⟩)
    try simp only [Exit.inBlock, Exit.then]
    refine bodyPost_ret (by simp [results, Tryz.results28, go_sem]; try rfl) rfl ?_
    exact HER.out 23 _ hd (by decide) (boxB _ _)
  · cases heb : (last.toList == [])
    · have heb2 : last.toList.isEmpty = false := by rw [← heb]; cases last.toList <;> rfl
      cases lb
      · have hd : de = 23 := by rw [HDE.out, HFO.out, heb]; rfl
        go_enter Tryz.func28, Tryz.ntmps28
        go_wp2_with (first
          | (go_at_call 12; refine (HN.out _).mono ?_; rintro e w1 ⟨rfl, rfl⟩)
          | (go_at_call 49; refine (HL.out _).mono ?_; rintro e w2 ⟨rfl, ok⟩; have HO4 := hide3 (HKB.out _ _ HB0.out ok); obtain ⟨⟨b0, b1, b2⟩, b3, b4⟩ := HO4.out.2; obtain ⟨s0, s1, s2, s3⟩ := set2 b0 b1; clear ok))
        try simp only [Exit.inBlock, Exit.then]
        refine bodyPost_ret (by simp [results, Tryz.results28, s2, s3, go_sem]; try rfl) rfl ?_
        exact HER.out 23 _ hd (by decide) (below_set2 (Nat.le_refl _) HO4.out.1)
      · have hfo : fo = true := by rw [HFO.out, heb]; rfl
        go_enter Tryz.func28, Tryz.ntmps28
        go_wp2_with (first
          | (go_at_call 12; refine (HN.out _).mono ?_; rintro e w1 ⟨rfl, rfl⟩)
          | (go_at_call 49; refine (HL.out _).mono ?_; rintro e w2 ⟨rfl, ok⟩; have HO2 := hide3 (HKB.out _ _ HB0.out ok); have d2 := HC2.out _ HO2.out.1; clear ok))
        go_loop [6, 7] (fun vt i => ∃ (m : Nat) (T : ByteArray), 3 ≤ m ∧ m ≤ n ∧ i = .int .i64 m ∧ vt = .string T ∧ T.data.toList = x ++ Lib.joinTail [32] (r.take (m - 3))) (fun _ i => n - (intOf i).toNat)
        case atStart => exact ⟨3, Sc.ba x, Nat.le_refl _, by omega, rfl, rfl, by rw [Sc.ba_list]; simp [Lib.joinTail]⟩
        case round =>
          obtain ⟨m, T, hm3, hmn, rfl, rfl, hT⟩ := hrel
          have HT := hide3 hT
          by_cases hlt : m < n
          · obtain ⟨k, rfl⟩ : ∃ k, m = k + 3 := ⟨m - 3, by omega⟩
            have hk : k < r.length := by omega
            have ck := HCR.out _ HO2.out.1 k hk
            have hTz : T.size ≤ 5000 := by rw [← list_size, hT]; exact HTL.out _
            have hXz : (Sc.ba r[k]).size ≤ 5000 := by rw [Sc.ba_size]; exact HXL.out k hk
            have z1 : (⟨#[32]⟩ : ByteArray).size = 1 := rfl
            have HJS : Hid (x ++ Lib.joinTail [32] (r.take (k + 1)) = x ++ Lib.joinTail [32] (r.take k) ++ [32] ++ r[k]) := by
              unfold Hid
              rw [Lib.joinTail_take_succ [32] r k r[k] (List.getElem?_eq_getElem hk)]
              simp
            have HBA : Hid ((Sc.ba r[k]).data.toList = r[k]) := Sc.ba_list _
            have e1 := fun W : World => run_string_add_sum (P := Tryz.prog) (w := W) T ⟨#[32]⟩ (by omega)
            have e2 := fun W : World => run_string_add_sum (P := Tryz.prog) (w := W) (T ++ ⟨#[32]⟩) (Sc.ba r[k]) (by rw [catZd]; omega)
            generalize hk3 : k + 3 = m at *
            have hmi : (m : Int) < (n : Int) := by omega
            clear hT z1
            go_wp2
            refine ⟨⟨m + 1, _, by omega, by omega, by go_num, rfl, ?_⟩, by simp [intOf]; omega⟩
            rw [show m + 1 - 3 = k + 1 by omega, HJS.out, catLd, catLd, HT.out, HBA.out, show m - 3 = k by omega]
          · obtain rfl : m = n := by omega
            rw [show m - 3 = r.length by omega, List.take_length] at hT
            obtain rfl := HTX.out T hT
            clear hT HT
            by_cases her : er = 0
            · subst her
              by_cases hX : 0 < X.length
              · have hd : de = 0 := by rw [HDE.out, if_pos hfo, if_pos ⟨rfl, hX⟩]
                have hXi : ((X.length : Int) == 0) = false := by rw [beq_eq_false_iff_ne]; omega
                have d1 := HC1.out _ HO2.out.1
                go_wp2_with (go_at_call 50; refine (HPA.out _).mono ?_; rintro e w3 ⟨v3, rfl, h1, ok⟩; obtain ⟨ad3, cap3, rfl, _⟩ := h1.sp; have HO3 : Hid ((Below w.heap.size w w3 ∧ BxDF w3 w.heap.size ⟨#[]⟩ (.slice none 0 0)) ∧ OwnS w3 w2.heap.size (.slice ad3 X.length cap3) X) := ⟨HKB.out _ _ HO2.out ok, h1⟩; obtain ⟨⟨b0, b1, b2⟩, b3, b4⟩ := HO3.out.1.2; obtain ⟨s0, s1, s2, s3⟩ := set2 b0 b1; have d3 := HC1.out _ HO3.out.1.1; clear ok h1)
                try simp only [Exit.inBlock, Exit.then]
                refine bodyPost_ret (by simp [results, Tryz.results28, s2, s3, go_sem]; try rfl) rfl ?_
                have hg2 : w.heap.size < w2.heap.size := HO2.out.2.1.2.2
                have hne : (Value.slice ad3 X.length cap3).ownBlock ≠ some w.heap.size := fun e => by
                  have := (HO3.out.2.lt e).2
                  omega
                exact HOK.out ad3 X.length cap3 _ hd (below_set2 (Nat.le_refl _) HO3.out.1.1) (((HO3.out.2.base HO2.out.1.size).set hne 0 _).set hne 1 _)
              · have hd : de = 21 := by rw [HDE.out, if_pos hfo, if_neg (fun h => hX h.2)]
                have hX0 : X.length = 0 := by omega
                go_wp2_with (go_at_call 50; refine (HPA.out _).mono ?_; rintro e w3 ⟨v3, rfl, h1, ok⟩; obtain ⟨ad3, cap3, rfl, _⟩ := h1.sp; rw [hX0]; have HO3 := hide3 (HKB.out _ _ HO2.out ok); obtain ⟨⟨b0, b1, b2⟩, b3, b4⟩ := HO3.out.2; obtain ⟨s0, s1, s2, s3⟩ := set2 b0 b1; clear ok h1)
                try simp only [Exit.inBlock, Exit.then]
                refine bodyPost_ret (by simp [results, Tryz.results28, s2, s3, go_sem]; try rfl) rfl ?_
                exact HER.out 21 _ hd (by decide) (below_set2 (Nat.le_refl _) HO3.out.1)
            · have hd : de = 21 := by rw [HDE.out, if_pos hfo, if_neg (fun h => her h.1)]
              have hre : (er == 0) = false := by simpa using her
              go_wp2_with (go_at_call 50; refine (HPA.out _).mono ?_; rintro e w3 ⟨v3, rfl, h1, ok⟩; obtain ⟨ad3, cap3, rfl, _⟩ := h1.sp; have HO3 := hide3 (HKB.out _ _ HO2.out ok); obtain ⟨⟨b0, b1, b2⟩, b3, b4⟩ := HO3.out.2; obtain ⟨s0, s1, s2, s3⟩ := set2 b0 b1; clear ok h1)
              try simp only [Exit.inBlock, Exit.then]
              refine bodyPost_ret (by simp [results, Tryz.results28, s2, s3, go_sem]; try rfl) rfl ?_
              exact HER.out 21 _ hd (by decide) (below_set2 (Nat.le_refl _) HO3.out.1)
    · have heb2 : last.toList.isEmpty = true := by rw [← heb]; cases last.toList <;> rfl
      have hfo : fo = true := by rw [HFO.out, heb]; rfl
      go_enter Tryz.func28, Tryz.ntmps28
      go_wp2_with (go_at_call 12; refine (HN.out _).mono ?_; rintro e w1 ⟨rfl, rfl⟩)
      have HO2 := hide3 HB0.out
      generalize w.alloc (.cells #[.string ⟨#[]⟩, .slice none 0 0] 60) = w2 at *
      go_loop [6, 7] (fun vt i => ∃ (m : Nat) (T : ByteArray), 3 ≤ m ∧ m ≤ n ∧ i = .int .i64 m ∧ vt = .string T ∧ T.data.toList = x ++ Lib.joinTail [32] (r.take (m - 3))) (fun _ i => n - (intOf i).toNat)
      case atStart => exact ⟨3, Sc.ba x, Nat.le_refl _, by omega, rfl, rfl, by rw [Sc.ba_list]; simp [Lib.joinTail]⟩
      case round =>
        obtain ⟨m, T, hm3, hmn, rfl, rfl, hT⟩ := hrel
        have HT := hide3 hT
        by_cases hlt : m < n
        · obtain ⟨k, rfl⟩ : ∃ k, m = k + 3 := ⟨m - 3, by omega⟩
          have hk : k < r.length := by omega
          have ck := HCR.out _ HO2.out.1 k hk
          have hTz : T.size ≤ 5000 := by rw [← list_size, hT]; exact HTL.out _
          have hXz : (Sc.ba r[k]).size ≤ 5000 := by rw [Sc.ba_size]; exact HXL.out k hk
          have z1 : (⟨#[32]⟩ : ByteArray).size = 1 := rfl
          have HJS : Hid (x ++ Lib.joinTail [32] (r.take (k + 1)) = x ++ Lib.joinTail [32] (r.take k) ++ [32] ++ r[k]) := by
            unfold Hid
            rw [Lib.joinTail_take_succ [32] r k r[k] (List.getElem?_eq_getElem hk)]
            simp
          have HBA : Hid ((Sc.ba r[k]).data.toList = r[k]) := Sc.ba_list _
          have e1 := fun W : World => run_string_add_sum (P := Tryz.prog) (w := W) T ⟨#[32]⟩ (by omega)
          have e2 := fun W : World => run_string_add_sum (P := Tryz.prog) (w := W) (T ++ ⟨#[32]⟩) (Sc.ba r[k]) (by rw [catZd]; omega)
          generalize hk3 : k + 3 = m at *
          have hmi : (m : Int) < (n : Int) := by omega
          clear hT z1
          go_wp2
          refine ⟨⟨m + 1, _, by omega, by omega, by go_num, rfl, ?_⟩, by simp [intOf]; omega⟩
          rw [show m + 1 - 3 = k + 1 by omega, HJS.out, catLd, catLd, HT.out, HBA.out, show m - 3 = k by omega]
        · obtain rfl : m = n := by omega
          rw [show m - 3 = r.length by omega, List.take_length] at hT
          obtain rfl := HTX.out T hT
          clear hT HT
          by_cases her : er = 0
          · subst her
            by_cases hX : 0 < X.length
            · have hd : de = 0 := by rw [HDE.out, if_pos hfo, if_pos ⟨rfl, hX⟩]
              have hXi : ((X.length : Int) == 0) = false := by rw [beq_eq_false_iff_ne]; omega
              have d1 := HC1.out _ HO2.out.1
              go_wp2_with (go_at_call 50; refine (HPA.out _).mono ?_; rintro e w3 ⟨v3, rfl, h1, ok⟩; obtain ⟨ad3, cap3, rfl, _⟩ := h1.sp; have HO3 : Hid ((Below w.heap.size w w3 ∧ BxDF w3 w.heap.size ⟨#[]⟩ (.slice none 0 0)) ∧ OwnS w3 w2.heap.size (.slice ad3 X.length cap3) X) := ⟨HKB.out _ _ HO2.out ok, h1⟩; obtain ⟨⟨b0, b1, b2⟩, b3, b4⟩ := HO3.out.1.2; obtain ⟨s0, s1, s2, s3⟩ := set2 b0 b1; have d3 := HC1.out _ HO3.out.1.1; clear ok h1)
              try simp only [Exit.inBlock, Exit.then]
              refine bodyPost_ret (by simp [results, Tryz.results28, s2, s3, go_sem]; try rfl) rfl ?_
              have hg2 : w.heap.size < w2.heap.size := HO2.out.2.1.2.2
              have hne : (Value.slice ad3 X.length cap3).ownBlock ≠ some w.heap.size := fun e => by
                have := (HO3.out.2.lt e).2
                omega
              exact HOK.out ad3 X.length cap3 _ hd (below_set2 (Nat.le_refl _) HO3.out.1.1) (((HO3.out.2.base HO2.out.1.size).set hne 0 _).set hne 1 _)
            · have hd : de = 21 := by rw [HDE.out, if_pos hfo, if_neg (fun h => hX h.2)]
              have hX0 : X.length = 0 := by omega
              go_wp2_with (go_at_call 50; refine (HPA.out _).mono ?_; rintro e w3 ⟨v3, rfl, h1, ok⟩; obtain ⟨ad3, cap3, rfl, _⟩ := h1.sp; rw [hX0]; have HO3 := hide3 (HKB.out _ _ HO2.out ok); obtain ⟨⟨b0, b1, b2⟩, b3, b4⟩ := HO3.out.2; obtain ⟨s0, s1, s2, s3⟩ := set2 b0 b1; clear ok h1)
              try simp only [Exit.inBlock, Exit.then]
              refine bodyPost_ret (by simp [results, Tryz.results28, s2, s3, go_sem]; try rfl) rfl ?_
              exact HER.out 21 _ hd (by decide) (below_set2 (Nat.le_refl _) HO3.out.1)
          · have hd : de = 21 := by rw [HDE.out, if_pos hfo, if_neg (fun h => her h.1)]
            have hre : (er == 0) = false := by simpa using her
            go_wp2_with (go_at_call 50; refine (HPA.out _).mono ?_; rintro e w3 ⟨v3, rfl, h1, ok⟩; obtain ⟨ad3, cap3, rfl, _⟩ := h1.sp; have HO3 := hide3 (HKB.out _ _ HO2.out ok); obtain ⟨⟨b0, b1, b2⟩, b3, b4⟩ := HO3.out.2; obtain ⟨s0, s1, s2, s3⟩ := set2 b0 b1; clear ok h1)
            try simp only [Exit.inBlock, Exit.then]
            refine bodyPost_ret (by simp [results, Tryz.results28, s2, s3, go_sem]; try rfl) rfl ?_
            exact HER.out 21 _ hd (by decide) (below_set2 (Nat.le_refl _) HO3.out.1)

theorem rDep_any {ln : List Sc.Bs} {vw : Value} {q : Option ByteArray} {last : ByteArray} {w : World} (hw : Sc.WordsAt w vw ln) (hs : ShortLn ln) (hz : ∀ x ∈ ln, x.length ≤ 5000) (hq : last = q.getD ⟨#[]⟩) (hq0 : ∀ s, q = some s → s.size ≠ 0) (hlz : last.size ≤ 1000000) :
    Calls Tryz.prog 28 #[vw, .string last] w (DepQ w (Sc.ba (ln.getD 1 [])) (ln.drop 2) (rdepE q ln)) := by
  obtain ⟨ad, cap, rfl, hc, hcs⟩ := hw
  unfold rdepE
  by_cases h3 : ln.length < 3
  · rw [if_pos h3]
    exact rDep_short h3
  · rw [if_neg h3]
    match ln, h3 with
    | [], h => exact absurd (by simp) h
    | [_], h => exact absurd (by simp) h
    | [_, _], h => exact absurd (by simp) h
    | p0 :: p1 :: x :: r, _ =>
      rcases hcs with hcs | ⟨g, o, rfl, hg, hcs⟩
      · cases hcs
      · refine rDep_long (p1 := p1) (x := x) (r := r) (by simp) hg (hcs 1 (by simp)) (hcs 2 (by simp)) (fun i hi => ?_) ?_ hs.2 ?_ hq hq0 hlz
        · have := hcs (i + 3) (by simp; omega)
          simpa using this
        · have := hs.1
          simp at this
          omega
        · have := hz p1 (by simp)
          omega
end Go.Proofs.YthoacfmfpbngkaaGreatDoor
