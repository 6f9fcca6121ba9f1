/- Rd0, Ct0, Srt, Gd0, Tc1, Tr1, laid in one text. -/
import Derived.OneCell
import Derived.Maps.AppendAt
import Derived.Shelf.SlSortCmp.NoneTotal
import Derived.Sort.OwnSorted
import Derived.Deep.RegionHeld3
import Derived.Test.YtcclfaioicklaaaGreatDoorMg11
namespace Go.Proofs.YtcclfaioicklaaaGreatDoor
open Go.RowKit
set_option maxRecDepth 100000

/-- Dependencies as cells, with their ranges' slices. -/
def dpCells (ps : List (Dp × Value)) : List Value := ps.flatMap fun p => [.string p.1.nm, p.2]
theorem dpCells_length (ps : List (Dp × Value)) : (dpCells ps).length = ps.length * 2 := by
  induction ps with
  | nil => rfl
  | cons p ps ih => unfold dpCells at *; simp only [List.flatMap_cons, List.length_append, List.length_cons, List.length_nil, ih]; omega
theorem dpCells_snoc (ps : List (Dp × Value)) (p : Dp × Value) : dpCells (ps ++ [p]) = dpCells ps ++ [.string p.1.nm, p.2] := by simp [dpCells]
theorem dpCells_at : ∀ (ps : List (Dp × Value)) (i : Nat) (h : i < ps.length), (dpCells ps)[i * 2]? = some (.string ps[i].1.nm) ∧ (dpCells ps)[i * 2 + 1]? = some ps[i].2
  | [], i, h => by simp at h
  | p :: ps, 0, _ => by simp [dpCells]
  | p :: ps, i + 1, h => by
    have := dpCells_at ps i (by simpa using h)
    have e : dpCells (p :: ps) = .string p.1.nm :: p.2 :: dpCells ps := by simp [dpCells]
    rw [e, show (i + 1) * 2 = i * 2 + 1 + 1 by omega]
    simpa using this

/-- Dependencies of one's own, with ranges of one's own. -/
def OwnD (w : World) (B : Nat) (v : Value) (ps : List (Dp × Value)) : Prop := w.ownsRow B 113 2 v ps.length (dpCells ps) ∧ ∀ p ∈ ps, OwnS w B p.2 p.1.rg
theorem OwnD.nil (w : World) (B : Nat) : OwnD w B (.slice none 0 0) [] := ⟨⟨rfl, Or.inl ⟨rfl, rfl⟩⟩, fun p hp => by cases hp⟩
theorem own_of {w w' : World} {B : Nat} {e : TypeId} {z : Nat} {v : Value} {n : Nat} {xs : List Value} (h : w.ownsRow B e z v n xs) (hk : ∀ g, v.ownBlock = some g → w'.heap[g]? = w.heap[g]?) : w'.ownsRow B e z v n xs := by
  refine ⟨h.1, ?_⟩
  rcases h.2 with hn | ⟨g, cap, cur, rfl, hB, hgg, r⟩
  · exact Or.inl hn
  · exact Or.inr ⟨g, cap, cur, rfl, hB, (hk g rfl).trans hgg, r⟩
theorem own_below {w w' : World} {B : Nat} {e : TypeId} {z : Nat} {v : Value} {n : Nat} {xs : List Value} (h : w.ownsRow B e z v n xs) (hb : Below w.heap.size w w') : w'.ownsRow B e z v n xs := own_of h fun g hg => hb.block g (h.lt g hg).2
theorem own_base {w : World} {B C : Nat} {e : TypeId} {z : Nat} {v : Value} {n : Nat} {xs : List Value} (h : w.ownsRow B e z v n xs) (hc : C ≤ B) : w.ownsRow C e z v n xs := by
  refine ⟨h.1, ?_⟩
  rcases h.2 with hn | ⟨g, cap, cur, hv, hB, r⟩
  · exact Or.inl hn
  · exact Or.inr ⟨g, cap, cur, hv, Nat.le_trans hc hB, r⟩
/-- Rows of other types are other rows. -/
theorem own_ne {w : World} {B B' : Nat} {e e' : TypeId} {z z' : Nat} {v v' : Value} {n n' : Nat} {xs xs' : List Value} (h : w.ownsRow B e z v n xs) (h' : w.ownsRow B' e' z' v' n' xs') (hne : e ≠ e') {g : Nat} (hg : v.ownBlock = some g) : v'.ownBlock ≠ some g := by
  intro hg'
  rcases h.2 with ⟨rfl, _⟩ | ⟨g1, cap, cur, rfl, _, hgg, _⟩
  · cases hg
  · rcases h'.2 with ⟨rfl, _⟩ | ⟨g2, cap', cur', rfl, _, hgg', _⟩
    · cases hg'
    · cases hg
      cases hg'
      rw [hgg] at hgg'
      injection hgg' with e1
      injection e1 with _ e2 _
      exact hne e2
theorem OwnD.below {w w' : World} {B : Nat} {v : Value} {ps : List (Dp × Value)} (h : OwnD w B v ps) (hb : Below w.heap.size w w') : OwnD w' B v ps := ⟨own_below h.1 hb, fun p hp => (h.2 p hp).below hb⟩
theorem OwnD.base {w : World} {B C : Nat} {v : Value} {ps : List (Dp × Value)} (h : OwnD w B v ps) (hc : C ≤ B) : OwnD w C v ps := ⟨own_base h.1 hc, fun p hp => (h.2 p hp).base hc⟩
theorem OwnS.at {w : World} {B : Nat} {v : Value} {L : List Sp} (h : OwnS w B v L) : SpansC w v L ∧ L.length ≤ 9223372036854775807 := by
  have h0 := h
  obtain ⟨ad, cap, rfl, hc, hl⟩ := h.sp
  refine ⟨⟨⟨ad, cap, rfl, hl⟩, ad, _, cap, rfl, hc⟩, ?_⟩
  rcases h0.2 with ⟨_, hn⟩ | ⟨g, cap', cur, _, _, _, h1, h2, _⟩
  · omega
  · unfold maxLen at h2; omega
theorem OwnD.at {w : World} {B : Nat} {v : Value} {ps : List (Dp × Value)} (h : OwnD w B v ps) : DepsAt w v (ps.map (·.1)) := by
  have h0 := h.1
  rcases h.1.2 with ⟨rfl, hn⟩ | ⟨g, cap, cur, rfl, hB, hg, hc, hm, _⟩
  · have : ps = [] := List.eq_nil_of_length_eq_zero hn
    subst this
    exact ⟨none, 0, rfl, Nat.le_refl _, Or.inl rfl⟩
  · have hlt := (Array.getElem?_eq_some_iff.1 hg).1
    refine ⟨_, cap, by rw [List.length_map], by rw [List.length_map]; exact hc, Or.inr ⟨g, 0, rfl, hlt, fun i hi => ?_⟩⟩
    have hi' : i < ps.length := by simpa using hi
    have c0 := World.ownsRow.cellAt h0 (i * 2) (by omega)
    have c1 := World.ownsRow.cellAt h0 (i * 2 + 1) (by omega)
    rw [(dpCells_at ps i hi').1] at c0
    rw [(dpCells_at ps i hi').2] at c1
    refine ⟨ps[i].2, ?_⟩
    rw [List.getElem_map, Nat.zero_add]
    exact ⟨c0, c1, (h.2 _ (List.getElem_mem hi')).at, hlt⟩
theorem OwnD.len {w : World} {B : Nat} {v : Value} {ps : List (Dp × Value)} (h : OwnD w B v ps) : ∃ ad cap, v = .slice ad ps.length cap := by
  rcases h.1.2 with ⟨rfl, hn⟩ | ⟨g, cap, cur, rfl, _⟩
  · exact ⟨none, 0, by rw [hn]⟩
  · exact ⟨_, cap, rfl⟩
end Go.Proofs.YtcclfaioicklaaaGreatDoor
namespace Go.Proofs.YtcclfaioicklaaaGreatDoor
open Go.RowKit
set_option maxRecDepth 100000

/-- Rows of different kinds share no block. -/
theorem own_apart {w : World} {B B' : Nat} {e e' : TypeId} {z z' : Nat} {v v' : Value} {n n' : Nat} {xs xs' : List Value} (h : w.ownsRow B e z v n xs) (h' : w.ownsRow B' e' z' v' n' xs') (hne : e ≠ e') : v.ownBlock = none ∨ v.ownBlock ≠ v'.ownBlock := by
  cases hv : v.ownBlock with
  | none => exact Or.inl rfl
  | some g => exact Or.inr fun e => own_ne h h' hne hv e.symm

theorem grown_pre {w w' w1 : World} {row : Option Nat} (hb : Below w.heap.size w w') (hg : w'.grownBy w1 row) : w.grownBy w1 row :=
  ⟨hg.os.trans hb.os, hg.tape.trans hb.tape, hg.output.trans hb.output, Nat.le_trans hb.size hg.size, fun k hk hn => (hg.block k (Nat.lt_of_lt_of_le hk hb.size) hn).trans (hb.block k hk)⟩

theorem below_grown {B : Nat} {w w1 : World} {own : Option Nat} (hg : w.grownBy w1 own) (h : ∀ g, own = some g → B ≤ g) (hB : B ≤ w.heap.size) : Below B w w1 := ⟨hg.os, hg.tape, hg.output, hg.size, fun k hk => hg.block k (by omega) (fun e => by have := h k e.symm; omega)⟩

/-- One thing is put behind a row of one's own, in a region that draws its order. -/
theorem step_own {B : Nat} {wx : World} {elt slt : TypeId} {z : Value} {sz bs n : Nat} {v : Value} {xs : List Value} {ops : Array Oper} {o : Oper} {f : Act} {K : Act → World → Prop} {Q : Exit → Act → World → Prop} {E : Prop}
    (hinfo : (Tryz.prog.info? elt).map (fun i => (i.zero, i.size, i.bytes)) = some (some z, sz, bs)) (hund : Tryz.prog.underlying slt = some (.slice elt)) (hzc : z.cells.size = sz) (hsz : 0 < sz) (hbs : bs ≤ 1000)
    (hgd : o.guard = none) (s t : Operand) (ho : o.op = .call { callee := .builtin .append, args := #[s, t], argTypes := #[slt, slt] }) (hs : f.eval s = v)
    (hown : wx.ownsRow B elt sz v n xs) (hB : B ≤ wx.heap.size) (cs : Array Value) (hcs : cs.size = sz) (hone : ∀ u ∈ cs.toList, u.oneCell' = true) {M : Nat} (hM : wx.heap.size = M) (hx : f.eval t = .slice (some ⟨M, 0, none⟩) 1 1) (hlen : n ≤ 1000000000)
    (h : ∀ v1 w1, w1.ownsRow B elt sz v1 (n + 1) (xs ++ cs.toList) → (wx.alloc (.cells cs elt)).grownBy w1 v.ownBlock → (v1.ownBlock = v.ownBlock ∨ v1.ownBlock = some (wx.heap.size + 1)) → K (f.put o.dst v1) w1) :
    if Region.wanted o (yielded ops f.tmps) = true then Oper.wp Tryz.prog o f (wx.alloc (.cells cs elt)) K Q else E := by
  have hw : Region.wanted o (yielded ops f.tmps) = true := by simp [Region.wanted, hgd]
  rw [if_pos hw]
  subst hM
  obtain ⟨i0, hi, hz0, hz1, hz2⟩ := Sc.info_parts hinfo
  have hsz1 : (wx.alloc (.cells cs elt)).heap.size = wx.heap.size + 1 := by simp
  have hbb : (n + 1) * bs ≤ 140737488355328 := by
    have := Nat.mul_le_mul (show n + 1 ≤ 1000000001 by omega) hbs
    omega
  obtain ⟨v1, w1, hr, hown1, hg1, _, hat⟩ := run_append_own_at (P := Tryz.prog) (wx.alloc (.cells cs elt)) B slt o.type elt i0 z sz bs hund hi hz0 hz1 hz2 hzc hsz v n xs (hown.alloc _) ⟨wx.heap.size, 0, none⟩ 1 1 cs.toList (by rw [Array.length_toList, hcs, Nat.one_mul])
    (World.news_of_block (cs := cs) (t := elt) (fr := (0, 0)) (by show (wx.heap.push _)[wx.heap.size]? = _; rw [Array.getElem?_push, if_pos rfl])) hone (by unfold maxLen; omega) hbb (by omega)
  unfold Oper.wp execOp
  simp only [ho, resolve, invoke, builtin, Sem.run_bind, Sem.run_pure, Result.andThen_ok, List.map_toArray, List.map_cons, List.map_nil, hs, hx, hr]
  exact h v1 w1 hown1 hg1 (by rw [hsz1] at hat; exact hat)

/-- Things are put behind a row of one's own, in a region that keeps its order. -/
theorem wp_ownN {B : Nat} {wx : World} {elt slt : TypeId} {z : Value} {sz bs n m c : Nat} {v : Value} {xs news : List Value} {ad : Addr} {ops : Array Oper} {rest : List Oper} {o : Oper} {f : Act} {Q : Exit → Act → World → Prop}
    (hinfo : (Tryz.prog.info? elt).map (fun i => (i.zero, i.size, i.bytes)) = some (some z, sz, bs)) (hund : Tryz.prog.underlying slt = some (.slice elt)) (hzc : z.cells.size = sz) (hsz : 0 < sz) (hbs : bs ≤ 1000)
    (hgd : o.guard = none) (s t : Operand) (ho : o.op = .call { callee := .builtin .append, args := #[s, t], argTypes := #[slt, slt] }) (hs : f.eval s = v)
    (hown : wx.ownsRow B elt sz v n xs) (hB : B ≤ wx.heap.size) (hx : f.eval t = .slice (some ad) m c) (hl : news.length = m * sz) (hnews : ∀ j u, news[j]? = some u → wx.cell? (ad.add j) = some u) (hone : ∀ u ∈ news, u.oneCell' = true) (hlen : n + m ≤ 1000000000)
    (h : ∀ v1 w1, w1.ownsRow B elt sz v1 (n + m) (xs ++ news) → wx.grownBy w1 v.ownBlock → (v1.ownBlock = v.ownBlock ∨ v1.ownBlock = some wx.heap.size) → wpList Tryz.prog ops Q rest (f.put o.dst v1) w1) :
    wpList Tryz.prog ops Q (o :: rest) f wx := by
  obtain ⟨i0, hi, hz0, hz1, hz2⟩ := Sc.info_parts hinfo
  have hbb : (n + m) * bs ≤ 140737488355328 := by
    have := Nat.mul_le_mul hlen hbs
    omega
  refine wpList_append_own_at _ hgd s t slt ho B elt i0 z sz bs hund hi hz0 hz1 hz2 hzc hsz v n xs hs hown ad m c news hx hl hnews hone (by unfold maxLen; omega) hbb hB ?_
  intro v1 w1 hown1 hg1 _ hat
  exact h v1 w1 hown1 hg1 hat
end Go.Proofs.YtcclfaioicklaaaGreatDoor
namespace Go.Proofs.YtcclfaioicklaaaGreatDoor
open Go.Shelf Go.RowKit Go.Lib Go.Sort
set_option maxRecDepth 100000
theorem flatMap_len {α : Type} (enc : α → List Value) (k : Nat) (hk : ∀ x, (enc x).length = k) (l : List α) : (l.flatMap enc).length = l.length * k := by
  induction l with
  | nil => simp
  | cons x t ih => rw [List.flatMap_cons, List.length_append, hk, ih, List.length_cons, Nat.succ_mul]; omega
variable {α : Type} [Inhabited α]

theorem flatMap_get (enc : α → List Value) (k : Nat) (hk : ∀ x, (enc x).length = k) : ∀ (l : List α) (i r : Nat), i < l.length → r < k → (l.flatMap enc)[i * k + r]? = (enc (l[i]!))[r]?
  | [], i, r, h, _ => by cases h
  | x :: t, 0, r, _, hr => by
    rw [List.flatMap_cons, List.getElem?_append_left (by rw [hk]; omega)]
    simp
  | x :: t, i + 1, r, h, hr => by
    rw [List.flatMap_cons, List.getElem?_append_right (by rw [hk, Nat.succ_mul]; omega), hk]
    have e : (i + 1) * k + r - k = i * k + r := by rw [Nat.succ_mul]; omega
    rw [e, flatMap_get enc k hk t i r (by simpa using h) hr]
    simp
theorem flat_gen (enc : α → List Value) (k : Nat) (hk : ∀ x, (enc x).length = k) (hk0 : 0 < k) (d : Array α) : (flatK enc k d).toList = d.toList.flatMap enc := by
  apply List.ext_getElem?
  intro t
  by_cases ht : t < d.size * k
  · have hq : t / k < d.toList.length := by rw [Array.length_toList]; exact (Nat.div_lt_iff_lt_mul hk0).2 ht
    have hr := Nat.mod_lt t hk0
    have hf : (flatK enc k d).toList[t]? = some ((enc d[t / k]!)[t % k]!) := by
      rw [Array.getElem?_toList]
      have : (flatK enc k d)[t]! = (enc d[t / k]!)[t % k]! := get_flatK _ _ _ _ ht
      rw [← this, getElem!_pos _ t (by simpa using ht)]
      exact Array.getElem?_eq_getElem (by simpa using ht)
    have hg := flatMap_get enc k hk d.toList (t / k) (t % k) hq hr
    rw [Nat.mul_comm, Nat.div_add_mod] at hg
    have hd : d.toList[t / k]! = d[t / k]! := by rw [getElem!_pos d (t / k) (by simpa using hq), getElem!_pos d.toList (t / k) hq]; simp
    rw [hf, hg, hd, List.getElem?_eq_getElem (by rw [hk]; exact hr), getElem!_pos _ (t % k) (by rw [hk]; exact hr)]
  · rw [List.getElem?_eq_none (by simp; omega), List.getElem?_eq_none (by rw [flatMap_len enc k hk]; simp; omega)]

theorem holds_gen (enc : α → List Value) (k : Nat) (hk : ∀ x, (enc x).length = k) (hk0 : 0 < k) {w : World} {g : Nat} {cur : Array Value} {e : TypeId} {fs : List α} (hb : w.heap[g]? = some (.cells cur e (0, 0))) (ht : cur.toList.take (fs.length * k) = fs.flatMap enc) : HoldsK enc k w g 0 fs.toArray := by
  intro j hj
  have hj' : j < fs.length * k := by simpa using hj
  refine ⟨?_, by simp [World.frozen?, hb]⟩
  have h1 : (cur.toList.take (fs.length * k))[j]? = (fs.flatMap enc)[j]? := by rw [ht]
  rw [List.getElem?_take_of_lt hj'] at h1
  simp only [World.cell?, hb, Nat.zero_add]
  simp only [Option.isSome_none, Bool.false_eq_true, if_false]
  rw [← Array.getElem?_toList, h1]
  have e := flat_gen enc k hk hk0 fs.toArray
  rw [List.toList_toArray] at e
  rw [← e, Array.getElem?_toList, getElem!_pos _ j hj]
  exact Array.getElem?_eq_getElem hj

theorem heap_gen (enc : α → List Value) (k : Nat) {w : World} {g n : Nat} {os : Array Obj} {cur : Array Value} {e : TypeId} {fr : Nat × Nat} (d : Array α) (hb : w.heap[g]? = some (.cells cur e fr)) :
    (sortWorldK enc k w g 0 n d os).heap[g]? = some (.cells (putCells id 0 (flatK enc k d) cur) e fr) := by
  have hg : g < w.heap.size := (Array.getElem?_eq_some_iff.1 hb).1
  unfold sortWorldK putRowK
  rw [heap_grow_old _ _ (by simpa using hg)]
  simp [putRow, mapBlock, Sort.ahead, Array.getElem?_modify, hb, onCells]
theorem grown_gen (enc : α → List Value) (k : Nat) {w : World} {g n : Nat} {os : Array Obj} (d : Array α) : w.grownBy (sortWorldK enc k w g 0 n d os) (some g) := by
  unfold sortWorldK putRowK
  refine ⟨rfl, rfl, rfl, by simp, fun j hj hne => ?_⟩
  rw [heap_grow_old _ _ (by simpa using hj)]
  have : g ≠ j := fun e => hne (by rw [e])
  simp [putRow, mapBlock, Sort.ahead, Array.getElem?_modify, this]
theorem take_put (cur : Array Value) (F : Array Value) (h : F.size ≤ cur.size) : (putCells id 0 F cur).toList.take F.size = F.toList := by
  apply List.ext_getElem?
  intro j
  by_cases hj : j < F.size
  · rw [List.getElem?_take_of_lt hj, Array.getElem?_toList, Array.getElem?_toList]
    simp [putCells, hj, show j < cur.size by omega]
  · rw [List.getElem?_take_eq_none (by omega), List.getElem?_eq_none (by simp; omega)]
theorem perm_list {d d' : Array α} (h : PermIn 0 d.size d d') : d'.toList.Perm d.toList := by
  obtain ⟨hsz, _, hperm⟩ := h
  have e1 : d'.extract 0 d.size = d' := by rw [← hsz]; exact Array.extract_size
  rw [e1, Array.extract_size] at hperm
  exact hperm
theorem sorted_list {lt : α → α → Bool} {d d' : Array α} (h : PermIn 0 d.size d d') (hS : SortedIn lt 0 d.size d') : d'.toList.Pairwise fun x y => lt y x = false := by
  have hsz := h.1
  rw [List.pairwise_iff_getElem]
  intro i j hi hj hij
  have hi' : i < d'.size := by simpa using hi
  have hj' : j < d'.size := by simpa using hj
  have := hS i j (Nat.zero_le _) hij (by omega)
  rw [getElem!_pos d' j hj', getElem!_pos d' i hi'] at this
  simpa using this
/-- Sorting a row of one's own by a function that may read what lies elsewhere. -/
theorem sort_mem {ρ : Ren} (L : SlLaysF0.n6 Tryz.prog ρ) (k : Nat) (hk0 : 0 < k) (aE : ∀ w, (isAgg (ρ.t 24)).run Tryz.prog w = .ok true w) (zE : ∀ w, (Go.sizeOf (ρ.t 24)).run Tryz.prog w = .ok k w) (enc : α → List Value) (hk : ∀ x, (enc x).length = k) (h1 : ∀ x, ∀ v ∈ enc x, v.oneCell' = true) (cf : α → α → Int) (hO : SWO (ltOf cf)) (g : Nat) (cb : Array Value)
    (eg : ∀ args w, (callFunc g args).run Tryz.prog w = .ok (.enter g args) w)
    {w : World} {base : Nat} {T : TypeId} {v : Value} {fs : List α} (hown : w.ownsRow base T k v fs.length (fs.flatMap enc)) (hz : fs.length < 4611686018427387904)
    (hcmp : ∀ W, w.grownBy W v.ownBlock → ∀ (x y : α), Calls Tryz.prog g (#[.agg (enc x).toArray, .agg (enc y).toArray] ++ cb) W fun e w' => e = .returned (.int .i64 (cf x y)) ∧ ∃ q os', w' = grow (W.drewN q) os') :
    Calls Tryz.prog (ρ.f 6) #[v, .func (.func g) #[] cb] w fun e w' => e = .returned (.tuple #[]) ∧ ∃ ts : List α, ts.Perm fs ∧ (ts.Pairwise fun x y => ltOf cf y x = false) ∧ w'.ownsRow base T k v ts.length (ts.flatMap enc) ∧ w.grownBy w' v.ownBlock := by
  rcases hown.2 with ⟨hv, hn⟩ | ⟨b, cap, cur, hv, hB, hgg, hc1, hc2, hc3, hc4⟩
  · obtain rfl : fs = [] := List.length_eq_zero_iff.1 hn
    subst hv
    refine (AnyF.slices_SortFunc_none L none 0 (.func (.func g) #[] cb) w).mono ?_
    rintro e w' ⟨rfl, rfl⟩
    exact ⟨rfl, [], List.Perm.refl _, List.Pairwise.nil, hown, ⟨rfl, rfl, rfl, Nat.le_refl _, fun _ _ _ => rfl⟩⟩
  · subst hv
    have hH := holds_gen enc k hk hk0 hgg hc4
    have hcon := AnyQ.slices_SortFunc L k aE zE enc hk h1 cf hO g cb b 0 cap fs.toArray w eg (fun m os dk _ x y => hcmp _ (grown_gen enc k dk) x y) hH (Array.getElem?_eq_some_iff.1 hgg).1 (by simp; omega)
    simp only [List.size_toArray] at hcon
    refine hcon.mono ?_
    rintro e w' ⟨rfl, d', n, os, hp, hs, rfl⟩
    have hp' : PermIn 0 fs.toArray.size fs.toArray d' := by simpa using hp
    have hs' : SortedIn (ltOf cf) 0 fs.toArray.size d' := by simpa using hs
    have hpl := perm_list hp'
    rw [List.toList_toArray] at hpl
    refine ⟨rfl, d'.toList, hpl, sorted_list hp' hs', ⟨by rw [flatMap_len enc k hk], .inr ⟨b, cap, _, by rw [hpl.length_eq], hB, heap_gen enc k d' hgg, by rw [hpl.length_eq]; exact hc1, hc2, by simp [putCells, hc3], ?_⟩⟩, grown_gen enc k d'⟩
    have e := flat_gen enc k hk hk0 d'
    have hsz : (flatK enc k d').size = d'.toList.length * k := by simp
    rw [← hsz, take_put cur _ (by rw [hsz, hc3, hpl.length_eq]; exact Nat.mul_le_mul_right k hc1), e]

/-- Sorting a row of one's own. -/
theorem sort_own {ρ : Ren} (L : SlLaysF0.n6 Tryz.prog ρ) (k : Nat) (hk0 : 0 < k) (aE : ∀ w, (isAgg (ρ.t 24)).run Tryz.prog w = .ok true w) (zE : ∀ w, (Go.sizeOf (ρ.t 24)).run Tryz.prog w = .ok k w) (enc : α → List Value) (hk : ∀ x, (enc x).length = k) (h1 : ∀ x, ∀ v ∈ enc x, v.oneCell' = true) (cf : α → α → Int) (hO : SWO (ltOf cf)) (g : Nat)
    (eg : ∀ args w, (callFunc g args).run Tryz.prog w = .ok (.enter g args) w) (hcmp : ∀ (x y : α) (W : World), Calls Tryz.prog g #[.agg (enc x).toArray, .agg (enc y).toArray] W fun e w' => e = .returned (.int .i64 (cf x y)) ∧ ∃ q os', w' = grow (W.drewN q) os')
    {w : World} {base : Nat} {T : TypeId} {v : Value} {fs : List α} (hown : w.ownsRow base T k v fs.length (fs.flatMap enc)) (hz : fs.length < 4611686018427387904) :
    Calls Tryz.prog (ρ.f 6) #[v, .func (.func g) #[] #[]] w fun e w' => e = .returned (.tuple #[]) ∧ ∃ ts : List α, ts.Perm fs ∧ (ts.Pairwise fun x y => ltOf cf y x = false) ∧ w'.ownsRow base T k v ts.length (ts.flatMap enc) ∧ w.grownBy w' v.ownBlock := by
  rcases hown.2 with ⟨hv, hn⟩ | ⟨b, cap, cur, hv, hB, hgg, hc1, hc2, hc3, hc4⟩
  · obtain rfl : fs = [] := List.length_eq_zero_iff.1 hn
    subst hv
    refine (AnyF.slices_SortFunc_none L none 0 (.func (.func g) #[] #[]) w).mono ?_
    rintro e w' ⟨rfl, rfl⟩
    exact ⟨rfl, [], List.Perm.refl _, List.Pairwise.nil, hown, ⟨rfl, rfl, rfl, Nat.le_refl _, fun _ _ _ => rfl⟩⟩
  · subst hv
    have hH := holds_gen enc k hk hk0 hgg hc4
    have hcon := AnyQ.slices_SortFunc L k aE zE enc hk h1 cf hO g #[] b 0 cap fs.toArray w eg (fun m os dk _ x y => by simpa using hcmp x y _) hH (Array.getElem?_eq_some_iff.1 hgg).1 (by simp; omega)
    simp only [List.size_toArray] at hcon
    refine hcon.mono ?_
    rintro e w' ⟨rfl, d', n, os, hp, hs, rfl⟩
    have hp' : PermIn 0 fs.toArray.size fs.toArray d' := by simpa using hp
    have hs' : SortedIn (ltOf cf) 0 fs.toArray.size d' := by simpa using hs
    have hpl := perm_list hp'
    rw [List.toList_toArray] at hpl
    refine ⟨rfl, d'.toList, hpl, sorted_list hp' hs', ⟨by rw [flatMap_len enc k hk], .inr ⟨b, cap, _, by rw [hpl.length_eq], hB, heap_gen enc k d' hgg, by rw [hpl.length_eq]; exact hc1, hc2, by simp [putCells, hc3], ?_⟩⟩, grown_gen enc k d'⟩
    have e := flat_gen enc k hk hk0 d'
    have hsz : (flatK enc k d').size = d'.toList.length * k := by simp
    rw [← hsz, take_put cur _ (by rw [hsz, hc3, hpl.length_eq]; exact Nat.mul_le_mul_right k hc1), e]
end Go.Proofs.YtcclfaioicklaaaGreatDoor
namespace Go.Proofs.YtcclfaioicklaaaGreatDoor
open Go.Shelf Go.RowKit Go.Lib Go.Sort
set_option maxRecDepth 100000

/-- New memory alone, and draws. -/
def Gd (w w' : World) : Prop := ∃ q os', w' = grow (w.drewN q) os'
theorem Gd.refl (w : World) : Gd w w := ⟨0, #[], by rw [grow_empty]; rfl⟩
theorem Gd.drew (w : World) : Gd w w.drew := ⟨1, #[], by rw [grow_empty]; rfl⟩
theorem Gd.box (w : World) (o : Obj) : Gd w (w.alloc o) := ⟨0, #[o], by rw [alloc_eq_grow]; rfl⟩
theorem Gd.trans {a b c : World} (h : Gd a b) (h' : Gd b c) : Gd a c := by
  obtain ⟨q, os, rfl⟩ := h
  obtain ⟨q', os', rfl⟩ := h'
  refine ⟨q + q', os ++ os', ?_⟩
  simp [grow, World.drewN, Array.append_assoc, Nat.add_assoc]
theorem Gd.box2 (w : World) (o u : Obj) : Gd w ((w.alloc o).alloc u) := (Gd.box w o).trans (Gd.box _ u)
theorem Gd.below {w w' : World} (h : Gd w w') : Below w.heap.size w w' := by
  obtain ⟨q, os, rfl⟩ := h
  refine ⟨rfl, rfl, rfl, by simp [grow, World.drewN], fun k hk => ?_⟩
  show (w.heap ++ os)[k]? = _
  rw [Array.getElem?_append_left hk]

set_option maxHeartbeats 400000 in
theorem less_gd (a b c x y z : Int) (w : World) :
    Calls Tryz.prog 156 #[.agg #[.int .i64 a, .int .i64 b, .int .i64 c], .agg #[.int .i64 x, .int .i64 y, .int .i64 z]] w fun e w' => e = .returned (.bool (lessV a b c x y z)) ∧ Gd w w' := by
  go_enter Tryz.func156, Tryz.ntmps156
  go_wp2
  all_goals
    go_ret
    exact ⟨ret_bool (by unfold lessV; simp_all), Gd.box2 _ _ _⟩

set_option maxHeartbeats 800000 in
theorem Compare_gd (a b c x y z : Int) (w : World) :
    Calls Tryz.prog 136 #[.agg #[.int .i64 a, .int .i64 b, .int .i64 c], .agg #[.int .i64 x, .int .i64 y, .int .i64 z]] w fun e w' => e = .returned (.int .i64 (cmpV a b c x y z)) ∧ Gd w w' := by
  have he := eqlV a b c x y z
  have hg := guardV
  have hl := less_gd a b c x y z
  by_cases h : a = x ∧ b = y ∧ c = z
  · have HC : Hid (cmpV a b c x y z = 0) := by unfold Hid cmpV; obtain ⟨h1, h2, h3⟩ := h; rw [if_pos h1, if_pos h2, if_pos h3]
    rw [decide_eq_true h] at he
    clear h
    go_enter Tryz.func136, Tryz.ntmps136
    go_wp2
    go_ret
    exact ⟨ret_int HC.out.symm, Gd.box2 _ _ _⟩
  · rw [decide_eq_false h] at he
    cases hc : lessV a b c x y z
    · have HC : Hid (cmpV a b c x y z = 1) := by unfold Hid cmpV; unfold lessV at hc; grind
      rw [hc] at hl
      clear h hc
      go_enter Tryz.func136, Tryz.ntmps136
      go_wp2_with (go_at_call 156; refine (hl _).mono ?_; rintro e w' ⟨rfl, hb⟩)
      go_ret
      exact ⟨ret_int HC.out.symm, (Gd.box2 _ _ _).trans hb⟩
    · have HC : Hid (cmpV a b c x y z = -1) := by unfold Hid cmpV; unfold lessV at hc; grind
      rw [hc] at hl
      clear h hc
      go_enter Tryz.func136, Tryz.ntmps136
      go_wp2_with (go_at_call 156; refine (hl _).mono ?_; rintro e w' ⟨rfl, hb⟩)
      go_ret
      exact ⟨ret_int HC.out.symm, (Gd.box2 _ _ _).trans hb⟩

theorem compare_lt : ∀ (a b : List UInt8), Lib.compareBytes a b < 0 ↔ bytesBefore a b = true
  | [], [] => by simp [Lib.compareBytes, bytesBefore]
  | [], _ :: _ => by simp [Lib.compareBytes, bytesBefore]
  | _ :: _, [] => by simp [Lib.compareBytes, bytesBefore]
  | a :: ra, b :: rb => by
    have ih := compare_lt ra rb
    unfold Lib.compareBytes bytesBefore
    by_cases h1 : a < b
    · simp [h1]
    · rw [if_neg h1]
      by_cases h2 : b < a
      · rw [if_pos h2]
        have h3 : ¬ a = b := fun e => by subst e; exact h1 h2
        simp [h1, h3]
      · rw [if_neg h2]
        have h3 : a = b := UInt8.le_antisymm (UInt8.not_lt.1 h2) (UInt8.not_lt.1 h1)
        simp [h3, ih]
theorem compare_eq : ∀ (a b : List UInt8), Lib.compareBytes a b = 0 ↔ a = b
  | [], [] => by simp [Lib.compareBytes]
  | [], _ :: _ => by simp [Lib.compareBytes]
  | _ :: _, [] => by simp [Lib.compareBytes]
  | a :: ra, b :: rb => by
    have ih := compare_eq ra rb
    unfold Lib.compareBytes
    by_cases h1 : a < b
    · rw [if_pos h1]
      have h3 : ¬ a = b := fun e => by subst e; exact absurd h1 (UInt8.lt_irrefl _)
      simp [h3]
    · rw [if_neg h1]
      by_cases h2 : b < a
      · rw [if_pos h2]
        have h3 : ¬ a = b := fun e => by subst e; exact h1 h2
        simp [h3]
      · rw [if_neg h2]
        have h3 : a = b := UInt8.le_antisymm (UInt8.not_lt.1 h2) (UInt8.not_lt.1 h1)
        simp [h3, ih]
theorem before_asymm {a b : List UInt8} (h : bytesBefore a b = true) : bytesBefore b a = false := by
  rw [Bool.eq_false_iff]
  intro k
  have := WideShapes.bytes_trans a b a h k
  rw [WideAt.bytes_irrefl] at this
  cases this
theorem not_before_trans {a b c : List UInt8} (h : bytesBefore a b = false) (k : bytesBefore b c = false) : bytesBefore a c = false := by
  rw [Bool.eq_false_iff]
  intro q
  by_cases e : b = c
  · subst e; rw [h] at q; cases q
  · rcases WideAt.bytes_total b c e with r | r
    · rw [k] at r; cases r
    · have := WideShapes.bytes_trans a c b q r
      rw [h] at this; cases this

set_option maxHeartbeats 1600000 in
theorem or_two {w : World} {g : Nat} {r1 r2 : Int} (c0 : w.cell? ⟨g, 0, none⟩ = some (.int .i64 r1)) (c1 : w.cell? ⟨g, 1, none⟩ = some (.int .i64 r2)) : Calls Tryz.prog 46 #[.slice (some ⟨g, 0, none⟩) 2 2] w fun e w' => e = .returned (.int .i64 (if r1 = 0 then r2 else r1)) ∧ w' = w := by
  have HIF : Hid ((r1 = 0 → (if r1 = 0 then r2 else r1) = r2) ∧ (¬ r1 = 0 → (if r1 = 0 then r2 else r1) = r1)) := ⟨fun h => if_pos h, fun h => if_neg h⟩
  generalize (if r1 = 0 then r2 else r1) = rr at *
  go_enter Tryz.func46, Tryz.ntmps46
  go_wp2_with fail
  go_loopw [8] (fun vi wr => wr = w ∧ (vi = .int .i64 0 ∨ (vi = .int .i64 1 ∧ r1 = 0) ∨ (vi = .int .i64 2 ∧ r1 = 0 ∧ r2 = 0))) (fun vi _ => 2 - (intOf vi).toNat)
  case atStart => exact ⟨rfl, Or.inl rfl⟩
  case round =>
    obtain ⟨hww, rfl | ⟨rfl, h1⟩ | ⟨rfl, h1, h2⟩⟩ := hrel
    · obtain rfl : w = wr := hww.symm
      by_cases hz : r1 = 0
      · have HZ := hide3 hz
        have hb : (r1 == 0) = true := by simpa using hz
        rw [hz] at c0
        clear hz hb
        go_wp2_with fail
        exact ⟨⟨trivial, Or.inr (Or.inl ⟨rfl, HZ.out⟩)⟩, by decide⟩
      · have HZ := hide3 hz
        have hb : (r1 == 0) = false := by simpa using hz
        clear hz
        go_wp2_with fail
        go_ret
        exact ⟨ret_int (HIF.out.2 HZ.out).symm, rfl⟩
    · obtain rfl : w = wr := hww.symm
      have HZ := hide3 h1
      clear h1
      by_cases hz : r2 = 0
      · have HZ2 := hide3 hz
        rw [hz] at c1
        clear hz
        go_wp2_with fail
        exact ⟨⟨trivial, Or.inr (Or.inr ⟨rfl, HZ.out, HZ2.out⟩)⟩, by decide⟩
      · have hb : (r2 == 0) = false := by simpa using hz
        clear hz
        go_wp2_with fail
        go_ret
        exact ⟨ret_int (HIF.out.1 HZ.out).symm, rfl⟩
    · obtain rfl : w = wr := hww.symm
      have HZ := hide3 h1
      have HZ2 := hide3 h2
      clear h1 h2
      go_wp2
      go_ret
      exact ⟨ret_int ((HIF.out.1 HZ.out).trans HZ2.out).symm, rfl⟩
end Go.Proofs.YtcclfaioicklaaaGreatDoor
namespace Go.Proofs.YtcclfaioicklaaaGreatDoor
open Go.Shelf Go.RowKit Go.Lib Go.Sort
set_option maxRecDepth 100000

/-- A comparison by which just those are level that are the same. -/
structure Ord3 {α : Type} (f : α → α → Int) : Prop where
  eq : ∀ x y, f x y = 0 ↔ x = y
  anti : ∀ x y, f x y < 0 ↔ 0 < f y x
  trans : ∀ x y z, f x y < 0 → f y z < 0 → f x z < 0
theorem Ord3.tri {α : Type} {f : α → α → Int} (h : Ord3 f) (x y : α) : f x y < 0 ∨ x = y ∨ f y x < 0 := by
  rcases Int.lt_trichotomy (f x y) 0 with q | q | q
  · exact Or.inl q
  · exact Or.inr (Or.inl ((h.eq _ _).1 q))
  · exact Or.inr (Or.inr ((h.anti _ _).2 q))
theorem Ord3.irr {α : Type} {f : α → α → Int} (h : Ord3 f) (x : α) : f x x = 0 := (h.eq x x).2 rfl
theorem Ord3.asymm {α : Type} {f : α → α → Int} (h : Ord3 f) {x y : α} (q : f x y < 0) : ¬ f y x < 0 := fun p => by
  have := h.trans _ _ _ q p
  rw [h.irr] at this
  omega
theorem Ord3.swo {α β : Type} {f : β → β → Int} (h : Ord3 f) (k : α → β) : SWO (ltOf fun x y => f (k x) (k y)) where
  irrefl x := by show decide (f (k x) (k x) < 0) = false; rw [h.irr]; rfl
  trans x y z h1 h2 := by
    unfold ltOf at *
    rw [decide_eq_true_iff] at *
    exact h.trans _ _ _ h1 h2
  ntrans x y z h1 h2 := by
    unfold ltOf at *
    rw [decide_eq_false_iff_not] at *
    intro (q : f (k x) (k z) < 0)
    rcases h.tri (k x) (k y) with p | p | p
    · exact h1 p
    · rw [p] at q
      exact h2 q
    · exact h2 (h.trans _ _ _ p q)

/-- The first that is not level. -/
def or2 (a b : Int) : Int := if a = 0 then b else a
theorem or2_zero {a b : Int} : or2 a b = 0 ↔ a = 0 ∧ b = 0 := by
  unfold or2
  split <;> constructor <;> intro h
  · exact ⟨‹_›, h⟩
  · exact h.2
  · exact absurd h ‹_›
  · exact absurd h.1 ‹_›
theorem or2_lt {a b : Int} : or2 a b < 0 ↔ a < 0 ∨ (a = 0 ∧ b < 0) := by unfold or2; split <;> omega
theorem or2_gt {a b : Int} : 0 < or2 a b ↔ 0 < a ∨ (a = 0 ∧ 0 < b) := by unfold or2; split <;> omega
theorem ord_or {α β γ : Type} {f : β → β → Int} {g : γ → γ → Int} (hf : Ord3 f) (hg : Ord3 g) (p : α → β) (q : α → γ) (hi : ∀ x y, p x = p y → q x = q y → x = y) : Ord3 fun x y => or2 (f (p x) (p y)) (g (q x) (q y)) where
  eq x y := by
    rw [or2_zero, hf.eq, hg.eq]
    exact ⟨fun h => hi _ _ h.1 h.2, fun h => by rw [h]; exact ⟨rfl, rfl⟩⟩
  anti x y := by
    rw [or2_lt, or2_gt, hf.anti, hg.anti, hf.eq, hf.eq]
    exact ⟨fun h => h.imp id fun h => ⟨h.1.symm, h.2⟩, fun h => h.imp id fun h => ⟨h.1.symm, h.2⟩⟩
  trans x y z h1 h2 := by
    rw [or2_lt, hf.eq] at *
    rcases h1 with h1 | ⟨e1, h1⟩
    · rcases h2 with h2 | ⟨e2, h2⟩
      · exact Or.inl (hf.trans _ _ _ h1 h2)
      · exact Or.inl (e2 ▸ h1)
    · rcases h2 with h2 | ⟨e2, h2⟩
      · exact Or.inl (e1 ▸ h2)
      · exact Or.inr ⟨e1.trans e2, hg.trans _ _ _ h1 h2⟩

/-- Lists compared, element by element; the shorter one first. -/
def cmpL {α : Type} (f : α → α → Int) : List α → List α → Int
  | [], [] => 0
  | [], _ :: _ => -1
  | _ :: _, [] => 1
  | x :: s, y :: t => or2 (f x y) (cmpL f s t)
theorem ord_list {α : Type} {f : α → α → Int} (h : Ord3 f) : Ord3 (cmpL f) where
  eq x := by
    induction x with
    | nil => intro y; cases y <;> simp [cmpL]
    | cons a s ih =>
      intro y
      cases y with
      | nil => simp [cmpL]
      | cons b t => rw [cmpL, or2_zero, h.eq, ih, List.cons.injEq]
  anti x := by
    induction x with
    | nil => intro y; cases y <;> simp [cmpL]
    | cons a s ih =>
      intro y
      cases y with
      | nil => simp [cmpL]
      | cons b t =>
        rw [cmpL, cmpL, or2_lt, or2_gt, h.anti, ih, h.eq, h.eq]
        exact ⟨fun q => q.imp id fun q => ⟨q.1.symm, q.2⟩, fun q => q.imp id fun q => ⟨q.1.symm, q.2⟩⟩
  trans x := by
    induction x with
    | nil =>
      intro y z h1 h2
      cases z with
      | nil => cases y <;> simp [cmpL] at h1 h2
      | cons c u => simp [cmpL]
    | cons a s ih =>
      intro y z h1 h2
      cases y with
      | nil => simp [cmpL] at h1
      | cons b t =>
        cases z with
        | nil => simp [cmpL] at h2
        | cons c u =>
          rw [cmpL, or2_lt, h.eq] at *
          rcases h1 with h1 | ⟨e1, h1⟩
          · rcases h2 with h2 | ⟨e2, h2⟩
            · exact Or.inl (h.trans _ _ _ h1 h2)
            · exact Or.inl (e2 ▸ h1)
          · rcases h2 with h2 | ⟨e2, h2⟩
            · exact Or.inl (e1 ▸ h2)
            · exact Or.inr ⟨e1.trans e2, ih _ _ h1 h2⟩

/-- Texts. -/
def cmpS (s t : ByteArray) : Int := Lib.compareBytes s.data.toList t.data.toList
theorem compare_gt : ∀ (a b : List UInt8), 0 < Lib.compareBytes a b ↔ Lib.compareBytes b a < 0
  | [], [] => by simp [Lib.compareBytes]
  | [], _ :: _ => by simp [Lib.compareBytes]
  | _ :: _, [] => by simp [Lib.compareBytes]
  | a :: ra, b :: rb => by
    have ih := compare_gt ra rb
    unfold Lib.compareBytes
    by_cases h1 : a < b
    · have h2 : ¬ b < a := UInt8.not_lt.2 (UInt8.le_of_lt h1)
      rw [if_pos h1, if_neg h2, if_pos h1]
      simp
    · rw [if_neg h1]
      by_cases h2 : b < a
      · rw [if_pos h2, if_pos h2]
        simp
      · rw [if_neg h2, if_neg h2, if_neg h1]
        exact ih
theorem ba_inj {s t : ByteArray} (h : s.data.toList = t.data.toList) : s = t := bytes_same (by rw [ByteArray.toList_eq, ByteArray.toList_eq]; exact h)
theorem ordS : Ord3 cmpS where
  eq x y := by
    unfold cmpS
    rw [compare_eq]
    exact ⟨ba_inj, fun e => by rw [e]⟩
  anti x y := by unfold cmpS; rw [compare_gt]
  trans x y z h1 h2 := by
    unfold cmpS at *
    rw [compare_lt] at *
    exact WideShapes.bytes_trans _ _ _ h1 h2
theorem cmpS_is (s t : ByteArray) : cmpS s t = if bytesBefore s.data.toList t.data.toList = true then -1 else if bytesBefore t.data.toList s.data.toList = true then 1 else 0 := by
  have h : ∀ a b : List UInt8, Lib.compareBytes a b = -1 ∨ Lib.compareBytes a b = 0 ∨ Lib.compareBytes a b = 1 := by
    intro a
    induction a with
    | nil => intro b; cases b <;> simp [Lib.compareBytes]
    | cons x a ih =>
      intro b
      cases b with
      | nil => simp [Lib.compareBytes]
      | cons y b =>
        unfold Lib.compareBytes
        split
        · exact Or.inl rfl
        · split
          · exact Or.inr (Or.inr rfl)
          · exact ih b
  have h1 := compare_lt s.data.toList t.data.toList
  have h2 := compare_lt t.data.toList s.data.toList
  have h3 := compare_gt s.data.toList t.data.toList
  have h4 := h s.data.toList t.data.toList
  unfold cmpS
  split
  · rename_i q
    have := h1.2 q
    omega
  · rename_i q
    have q1 : ¬ Lib.compareBytes s.data.toList t.data.toList < 0 := fun p => q (h1.1 p)
    split
    · rename_i r
      have := h3.2 (h2.2 r)
      omega
    · rename_i r
      have q2 : ¬ 0 < Lib.compareBytes s.data.toList t.data.toList := fun p => r (h2.1 (h3.1 p))
      omega

/-- Versions, as triples. -/
def cmpT (u v : Int × Int × Int) : Int := cmpV u.1 u.2.1 u.2.2 v.1 v.2.1 v.2.2
theorem cmpV_zero {a b c x y z : Int} : cmpV a b c x y z = 0 ↔ a = x ∧ b = y ∧ c = z := by
  unfold cmpV
  constructor
  · intro h
    repeat' split at h
    all_goals omega
  · rintro ⟨rfl, rfl, rfl⟩
    simp
theorem cmpV_lt {a b c x y z : Int} : cmpV a b c x y z < 0 ↔ a < x ∨ (a = x ∧ (b < y ∨ (b = y ∧ c < z))) := by
  unfold cmpV
  repeat' split
  all_goals omega
theorem cmpV_gt {a b c x y z : Int} : 0 < cmpV a b c x y z ↔ x < a ∨ (x = a ∧ (y < b ∨ (y = b ∧ z < c))) := by
  unfold cmpV
  repeat' split
  all_goals omega
theorem ordT : Ord3 cmpT where
  eq x y := by
    unfold cmpT
    rw [cmpV_zero]
    obtain ⟨a, b, c⟩ := x
    obtain ⟨a', b', c'⟩ := y
    simp
  anti x y := by unfold cmpT; rw [cmpV_lt, cmpV_gt]
  trans x y z h1 h2 := by
    unfold cmpT at *
    rw [cmpV_lt] at *
    omega

/-- Spans, dependencies, packages, directories. -/
def cmpSp (s t : Sp) : Int := or2 (cmpV s.a s.b s.c t.a t.b t.c) (cmpV s.x s.y s.z t.x t.y t.z)
theorem ordSp : Ord3 cmpSp := ord_or ordT ordT (fun s : Sp => (s.a, s.b, s.c)) (fun s : Sp => (s.x, s.y, s.z)) fun x y h1 h2 => by
  obtain ⟨a, b, c, d, e, f⟩ := x
  obtain ⟨a', b', c', d', e', f'⟩ := y
  simp only [Prod.mk.injEq] at h1 h2
  obtain ⟨rfl, rfl, rfl⟩ := h1
  obtain ⟨rfl, rfl, rfl⟩ := h2
  rfl
def cmpDp (d e : Dp) : Int := or2 (cmpS d.nm e.nm) (cmpL cmpSp d.rg e.rg)
theorem ordDp : Ord3 cmpDp := ord_or ordS (ord_list ordSp) (fun d : Dp => d.nm) (fun d : Dp => d.rg) fun x y h1 h2 => by
  obtain ⟨n, r⟩ := x
  obtain ⟨m, q⟩ := y
  simp only at h1 h2
  rw [h1, h2]
/-- The first of five that is not level. -/
def or5 (a b c d e : Int) : Int := or2 a (or2 b (or2 c (or2 d e)))
def cmpPg (P Q : Pg) : Int := or5 (cmpS P.nm Q.nm) (cmpV P.a P.b P.c Q.a Q.b Q.c) (cmpL cmpDp P.d Q.d) (cmpL cmpDp P.p Q.p) (cmpL cmpDp P.o Q.o)
theorem ordPg : Ord3 cmpPg :=
  have h1 := ord_or (ord_list ordDp) (ord_list ordDp) (fun u : List Dp × List Dp => u.1) (fun u => u.2) fun x y h1 h2 => Prod.ext h1 h2
  have h2 := ord_or (ord_list ordDp) h1 (fun u : List Dp × List Dp × List Dp => u.1) (fun u => u.2) fun x y h1 h2 => Prod.ext h1 h2
  have h3 := ord_or ordT h2 (fun u : (Int × Int × Int) × List Dp × List Dp × List Dp => u.1) (fun u => u.2) fun x y h1 h2 => Prod.ext h1 h2
  ord_or ordS h3 (fun P : Pg => P.nm) (fun P : Pg => ((P.a, P.b, P.c), P.d, P.p, P.o)) fun x y h1 h2 => by
    obtain ⟨n, a, b, c, d, e, o⟩ := x
    obtain ⟨n', a', b', c', d', e', o'⟩ := y
    simp only [Prod.mk.injEq] at h1 h2
    obtain ⟨⟨rfl, rfl, rfl⟩, rfl, rfl, rfl⟩ := h2
    rw [h1]
/-- Where a directory stands, and its package. -/
def keyD (d : Dr) : List ByteArray × Pg := (d.pa, d.pk)
def cmpK (u v : List ByteArray × Pg) : Int := or2 (cmpL cmpS u.1 v.1) (cmpPg u.2 v.2)
theorem ordK : Ord3 cmpK := ord_or (ord_list ordS) ordPg (fun u : List ByteArray × Pg => u.1) (fun u => u.2) fun _ _ h1 h2 => Prod.ext h1 h2
theorem cmpL_at {α : Type} {f : α → α → Int} {A B : List α} {k : Nat} (ha : k < A.length) (hb : k < B.length) : cmpL f (A.drop k) (B.drop k) = or2 (f A[k] B[k]) (cmpL f (A.drop (k + 1)) (B.drop (k + 1))) := by
  rw [List.drop_eq_getElem_cons ha, List.drop_eq_getElem_cons hb]
  rfl
theorem cmpL_left {α : Type} {f : α → α → Int} {A B : List α} {k : Nat} (ha : k < A.length) (hb : B.length ≤ k) : cmpL f (A.drop k) (B.drop k) = 1 := by
  rw [List.drop_eq_getElem_cons ha, List.drop_eq_nil_iff.2 hb]
  rfl
theorem cmpL_right {α : Type} {f : α → α → Int} {A B : List α} {k : Nat} (ha : A.length ≤ k) (hb : k < B.length) : cmpL f (A.drop k) (B.drop k) = -1 := by
  rw [List.drop_eq_getElem_cons hb, List.drop_eq_nil_iff.2 ha]
  rfl
theorem cmpL_both {α : Type} {f : α → α → Int} {A B : List α} {k : Nat} (ha : A.length ≤ k) (hb : B.length ≤ k) : cmpL f (A.drop k) (B.drop k) = 0 := by
  rw [List.drop_eq_nil_iff.2 hb, List.drop_eq_nil_iff.2 ha]
  rfl
end Go.Proofs.YtcclfaioicklaaaGreatDoor
namespace Go.Proofs.YtcclfaioicklaaaGreatDoor
open Go.RowKit
set_option maxRecDepth 100000

set_option maxHeartbeats 1600000 in
theorem rPath_walk (A B : List ByteArray) (hAB : A.length = B.length) (hsz : A.length ≤ 9223372036854775807) (ad bd : Option Addr) (ca cb : Nat) (w : World) (hla : ∀ i (h : i < A.length), ∃ g o, ad = some ⟨g, o, none⟩ ∧ StIn w g (o + i) A[i]) (hlb : ∀ i (h : i < B.length), ∃ g o, bd = some ⟨g, o, none⟩ ∧ StIn w g (o + i) B[i]) :
    Calls Tryz.prog 15 #[.slice ad A.length ca, .slice bd B.length cb] w fun e w' => e = .returned (.bool (eqB A B)) ∧ Below w.heap.size w w' := by
  have HL : Hid (∀ w1, Below w.heap.size w w1 → ∀ i (h : i < A.length) (h2 : i < B.length), (∃ g o, ad = some ⟨g, o, none⟩ ∧ StIn w1 g (o + i) A[i]) ∧ ∃ g o, bd = some ⟨g, o, none⟩ ∧ StIn w1 g (o + i) B[i]) := fun w1 hb i hi hi2 => ⟨by obtain ⟨g, o, e, h⟩ := hla i hi; exact ⟨g, o, e, h.below hb⟩, by obtain ⟨g, o, e, h⟩ := hlb i hi2; exact ⟨g, o, e, h.below hb⟩⟩
  have HAB := hide3 hAB
  clear hla hlb
  rw [← hAB]
  clear hAB
  go_enter Tryz.func15, Tryz.ntmps15
  go_wp2_with fail
  go_loopw [5] (fun i wr => ∃ k : Nat, k ≤ A.length ∧ i = .int .i64 k ∧ Below w.heap.size w wr ∧ ∀ j (h : j < k) (h1 : j < A.length) (h2 : j < B.length), A[j] = B[j]) (fun i _ => A.length - (intOf i).toNat)
  case atStart => exact ⟨0, Nat.zero_le _, rfl, Below.refl _ _, fun j h => by omega⟩
  case round =>
    obtain ⟨k, hk, rfl, hb, hall⟩ := hrel
    have HALL := hide3 hall
    have HB := hide3 hb
    clear hall
    by_cases hlt : k < A.length
    · have hltB : k < B.length := HAB.out ▸ hlt
      obtain ⟨⟨ga, oa, rfl, hsa⟩, ⟨gb, ob, rfl, hsb⟩⟩ := HL.out wr hb k hlt hltB
      have HO : Hid (Below w.heap.size w wr ∧ StIn wr ga (oa + k) A[k] ∧ StIn wr gb (ob + k) B[k]) := ⟨hb, hsa, hsb⟩
      have HK : Hid (KeepP fun w1 => Below w.heap.size w w1 ∧ StIn w1 ga (oa + k) A[k] ∧ StIn w1 gb (ob + k) B[k]) := (keepBelow w).and ((keepStIn _ _ _).and (keepStIn _ _ _))
      have HNE : Hid (A[k] ≠ B[k] → eqB A B = false) := fun h => eqB_no fun e => by subst e; exact h rfl
      have HST : Hid (A[k] = B[k] → ∀ j (h : j < k + 1) (h1 : j < A.length) (h2 : j < B.length), A[j] = B[j]) := fun h j hj h1 h2 => by
        rcases Nat.lt_or_ge j k with hjk | hjk
        · exact HALL.out j hjk h1 h2
        · obtain rfl : j = k := by omega
          exact h
      generalize A[k] = s at *
      generalize B[k] = t at *
      clear hsa hsb
      by_cases hq : s = t
      · have HR := hide3 (HST.out hq)
        have hqq : (s.toList == t.toList) = true := by rw [hq]; simp
        clear hb HNE HST HALL hq
        go_wp2_with fail
        refine wp_region_keep HK.out (by kernel_rfl) (by kernel_rfl) (by first | exact HO.out | exact HK.out.drew HO.out) ?_
        intro C hin hout
        have HIN := hide3 hin
        have HOUT := hide3 hout
        clear hin hout HO
        repeat
          (with_reducible refine wpQuiet_step (fun K hK => ?_)
           go_simp
           first
             | (refine hK _ ?_; clear hK K)
             | (apply Exists.intro; refine ⟨fun w1 hC => ?_, hK _ ?_⟩; (focus ((first | (exact rfl) | (obtain ⟨hb1, ⟨p0, p1⟩, ⟨q0, q1⟩⟩ := HOUT.out w1 hC; clear hC; go_simp; first | done | exact rfl)); done)); clear hK K))
        refine wpQuiet_nil ?_
        intro wn hC
        have HO := hide3 (HOUT.out _ hC)
        clear hC HIN HOUT C
        obtain ⟨hb1, ⟨p0, p1⟩, ⟨q0, q1⟩⟩ := HO.out
        go_wp2
        exact ⟨⟨k + 1, by omega, by go_num, HO.out.1, HR.out⟩, by simp [intOf]; omega⟩
      · have HR := hide3 (HNE.out hq)
        have hqq : (s.toList == t.toList) = false := by rw [beq_eq_false_iff_ne]; exact fun e => hq (str_same e)
        clear hb HNE HST HALL hq
        go_wp2_with fail
        refine wp_region_keep HK.out (by kernel_rfl) (by kernel_rfl) (by first | exact HO.out | exact HK.out.drew HO.out) ?_
        intro C hin hout
        have HIN := hide3 hin
        have HOUT := hide3 hout
        clear hin hout HO
        repeat
          (with_reducible refine wpQuiet_step (fun K hK => ?_)
           go_simp
           first
             | (refine hK _ ?_; clear hK K)
             | (apply Exists.intro; refine ⟨fun w1 hC => ?_, hK _ ?_⟩; (focus ((first | (exact rfl) | (obtain ⟨hb1, ⟨p0, p1⟩, ⟨q0, q1⟩⟩ := HOUT.out w1 hC; clear hC; go_simp; first | done | exact rfl)); done)); clear hK K))
        refine wpQuiet_nil ?_
        intro wn hC
        have HO := hide3 (HOUT.out _ hC)
        clear hC HIN HOUT C
        obtain ⟨hb1, ⟨p0, p1⟩, ⟨q0, q1⟩⟩ := HO.out
        go_wp2
        go_ret
        exact ⟨ret_bool HR.out.symm, HO.out.1⟩
    · have hke : k = A.length := by omega
      subst hke
      have HR : Hid (eqB A B = true) := eqB_yes (List.ext_getElem HAB.out fun j h1 h2 => HALL.out j h1 h1 h2)
      clear hb
      go_wp2
      go_ret
      exact ⟨ret_bool HR.out.symm, HB.out⟩

theorem rPath_len (ad bd : Option Addr) (n m ca cb : Nat) (h : n ≠ m) (w : World) :
    Calls Tryz.prog 15 #[.slice ad n ca, .slice bd m cb] w fun e w' => e = .returned (.bool false) ∧ Below w.heap.size w w' := by
  have hn : ((n : Int) = (m : Int)) = False := by simp; omega
  go_enter Tryz.func15, Tryz.ntmps15
  go_wp2
  go_ret
  exact ⟨rfl, Below.refl _ _⟩

theorem PathAt.el {w : World} {v : Value} {L : List ByteArray} (h : PathAt w v L) : ∃ ad cap, v = .slice ad L.length cap ∧ L.length ≤ cap ∧ ∀ i (_ : i < L.length), ∃ g o, ad = some ⟨g, o, none⟩ ∧ StIn w g (o + i) L[i] := by
  obtain ⟨ad, cap, rfl, hc, hl⟩ := h
  refine ⟨ad, cap, rfl, hc, fun i hi => ?_⟩
  rcases hl with rfl | ⟨g, o, e, hs⟩
  · cases hi
  · exact ⟨g, o, e, hs i hi⟩

/-- The document's Path: two paths compared. -/
theorem rPath_any {A B : List ByteArray} {va vb : Value} {w : World} (ha : PathAt w va A) (hb : PathAt w vb B) (hsz : A.length ≤ 9223372036854775807) :
    Calls Tryz.prog 15 #[va, vb] w fun e w' => e = .returned (.bool (eqB A B)) ∧ Below w.heap.size w w' := by
  obtain ⟨ad, ca, rfl, _, hl⟩ := ha.el
  obtain ⟨bd, cb, rfl, _, hm⟩ := hb.el
  by_cases hn : A.length = B.length
  · exact rPath_walk A B hn hsz ad bd ca cb w hl hm
  · rw [eqB_no fun e => hn (by rw [e])]
    exact rPath_len _ _ _ _ _ _ hn w

set_option maxHeartbeats 1600000 in
/-- The document's Find. -/
theorem rFind_any {L : List Dr} {v : Value} {p : List ByteArray} {vp : Value} {w : World} (h : DirsAt w v L) (hz : L.length ≤ 9223372036854775807) (hf : FitD L) (hp : PathAt w vp p) :
    Calls Tryz.prog 18 #[.agg #[v], vp] w fun e w' => e = .returned (.int .i64 (findV L p)) ∧ Below w.heap.size w w' := by
  have HE : Hid (∀ w1, Below w.heap.size w w1 → ∀ u A, PathAt w1 u A → A.length ≤ 9223372036854775807 → Calls Tryz.prog 15 #[u, vp] w1 fun e w' => e = .returned (.bool (eqB A p)) ∧ Below w1.heap.size w1 w') := fun w1 hb u A hu hl => rPath_any hu (hp.below hb) hl
  obtain ⟨ad, cap, rfl, hc, hsl⟩ := h.sl
  have HS : Hid (∀ w1, Below w.heap.size w w1 → ∀ i (_ : i < L.length), ∃ g o, ad = some ⟨g, o, none⟩ ∧ ∃ u v1 v2 v3, DrIn w1 g (o + i * 9) L[i] u v1 v2 v3) := fun w1 hb i hi => by
    obtain ⟨g, o, e, u, v1, v2, v3, hd⟩ := hsl i hi
    exact ⟨g, o, e, u, v1, v2, v3, hd.below hb⟩
  have HF := hide3 hf
  obtain ⟨pd, pc, rfl⟩ := hp.sl
  clear h hp hsl hf
  go_enter Tryz.func18, Tryz.ntmps18
  go_wp2_with fail
  go_loopw [5] (fun i wr => ∃ k : Nat, k ≤ L.length ∧ i = .int .i64 k ∧ (Below w.heap.size w wr ∧ BxT wr w.heap.size (.slice ad L.length cap)) ∧ ∀ j (_ : j < k) (h1 : j < L.length), L[j].pa ≠ p) (fun i _ => L.length - (intOf i).toNat)
  case atStart => exact ⟨0, Nat.zero_le _, rfl, ⟨boxB _ _, BxT.new _ _⟩, fun j h => by omega⟩
  case round =>
    obtain ⟨k, hk, rfl, ⟨hb, bx0, bx1⟩, hall⟩ := hrel
    have HALL := hide3 hall
    have HB := hide3 hb
    clear hall
    by_cases hlt : k < L.length
    · obtain ⟨g, o, rfl, u, v1, v2, v3, ⟨c0, c1, c2, c3, c4, c5, c6, c7, c8⟩, ⟨hpa, hpk⟩, hg⟩ := HS.out wr hb k hlt
      have HC := hide3 (HE.out wr hb u _ hpa (HF.out _ (List.getElem_mem hlt)))
      have HY : Hid (L[k].pa = p → findV L p = k) := fun h => findV_at hlt h HALL.out
      have HN : Hid (L[k].pa ≠ p → ∀ j (_ : j < k + 1) (h1 : j < L.length), L[j].pa ≠ p) := fun h j hj h1 => by
        rcases Nat.lt_or_ge j k with hjk | hjk
        · exact HALL.out j hjk h1
        · obtain rfl : j = k := by omega
          exact h
      obtain ⟨ua, uc, rfl⟩ := hpa.sl
      clear c1 c2 c3 c4 c5 c6 c7 c8 hpk hpa hb
      have HBX : Hid (BxT wr w.heap.size (.slice (some ⟨g, o, none⟩) L.length cap)) := ⟨bx0, bx1⟩
      generalize L[k].pa.length = n at *
      by_cases hq : L[k].pa = p
      · have HR := hide3 (HY.out hq)
        rw [eqB_yes hq] at HC
        clear HY HN HALL hq
        go_wp2_with (go_at_call 15; refine HC.out.mono ?_; rintro x w1 ⟨rfl, ok⟩)
        go_ret
        exact ⟨ret_int HR.out.symm, below_then HB.out ok⟩
      · have HR := hide3 (HN.out hq)
        rw [eqB_no hq] at HC
        clear HY HN HALL hq
        go_wp2_with (go_at_call 15; refine HC.out.mono ?_; rintro x w1 ⟨rfl, ok⟩)
        exact ⟨⟨k + 1, by omega, by go_num, ⟨below_then HB.out ok, keepBxT _ _ _ _ HBX.out ok⟩, HR.out⟩, by simp [intOf]; omega⟩
    · have hke : k = L.length := by omega
      subst hke
      have HR : Hid (findV L p = -1) := findV_no fun j h1 => HALL.out j h1 h1
      clear hb
      go_wp2
      go_ret
      exact ⟨ret_int HR.out.symm, HB.out⟩

theorem own_sl {w : World} {B : Nat} {v : Value} {n : Nat} {xs : List Value} (h : w.ownsRow B 9 1 v n xs) : ∃ a c, v = .slice a n c := by
  rcases h.2 with ⟨rfl, rfl⟩ | ⟨g, cap, cur, rfl, _⟩
  · exact ⟨none, 0, rfl⟩
  · exact ⟨_, cap, rfl⟩
theorem own_none (w : World) (B : Nat) : w.ownsRow B 9 1 (.slice none 0 0) 0 [] := ⟨rfl, Or.inl ⟨rfl, rfl⟩⟩

set_option maxHeartbeats 1600000 in
/-- The document's joined: a path with a name more. -/
theorem joined_any {p : List ByteArray} {v : Value} {w : World} (h : PathAt w v p) (s : ByteArray) (hl : p.length * 16 ≤ 140737488355328) :
    Calls Tryz.prog 80 #[v, .string s] w fun e w' => ∃ a c, e = .returned (.slice a (p.length + 1) c) ∧ PathAt w' (.slice a (p.length + 1) c) (p ++ [s]) ∧ Below w.heap.size w w' := by
  obtain ⟨ad, cap, rfl, hcp, hc⟩ := h
  obtain ⟨i0, hi, hz0, hz1, hz2⟩ := Sc.info_parts Sc.infoStr
  have HFIN : Hid (∀ w1 v1 w2 v2, Below w.heap.size w w1 → w1.ownsRow w.heap.size 9 1 v1 p.length (pcs p) → w2.ownsRow w.heap.size 9 1 v2 (p.length + 1) (pcs p ++ [.string s]) → (w1.alloc (.cells #[.string s] 9)).grownBy w2 v1.ownBlock → ∃ a c, v2 = .slice a (p.length + 1) c ∧ PathAt w2 (.slice a (p.length + 1) c) (p ++ [s]) ∧ Below w.heap.size w w2) := fun w1 v1 w2 v2 hb h1 h2 h3 => by
    have ho : OwnPa w2 w.heap.size v2 (p ++ [s]) := by unfold OwnPa; rw [pcs_snoc, List.length_append]; exact h2
    obtain ⟨a, c, rfl, _⟩ := ho.form
    refine ⟨a, c, by rw [List.length_append]; rfl, ?_, hb.grown (grown_on (boxB _ _) h3) hb.size (fun q hq => (World.ownsRow.lt h1 q hq).1)⟩
    have := ho.at
    rw [List.length_append] at this
    exact this
  cases ad with
  | none =>
    obtain rfl : p = [] := by
      rcases hc with e | ⟨_, _, q, _⟩
      · exact e
      · cases q
    have HON := hide3 (own_none w w.heap.size)
    rw [List.length_nil]
    clear hc
    have t1 : True := trivial
    go_enter Tryz.func80, Tryz.ntmps80
    go_wp2_with (at_builtin; refine wpList_append_own_wide _ rfl (.tmp 9) (.tmp 11) 29 rfl w.heap.size 9 i0 _ 1 16 Tryz.underlying29 hi hz0 hz1 hz2 rfl (by decide) (.slice none 0 0) 0 [] rfl (HON.out.alloc _) ⟨w.heap.size, 0, none⟩ 1 1 [.string s] rfl rfl (cell_one_new _ _ _) (fun u hu => by rw [List.mem_singleton.1 hu]; rfl) (by decide) (by decide) (by simp) ?_; intro v2 w2 ho hgr _; obtain ⟨a2, c2, rfl, hp2, hb2⟩ := HFIN.out w _ w2 v2 (Below.refl _ _) HON.out ho hgr; have HP2 := hide3 hp2; have HB2 := hide3 hb2; clear ho hgr hp2 hb2)
    go_ret
    exact ⟨_, _, rfl, HP2.out, HB2.out⟩
  | some a0 =>
    obtain ⟨g, o, sp⟩ := a0
    have HNW : Hid (∀ j u, (pcs p)[j]? = some u → w.cell? ((⟨g, o, sp⟩ : Addr).add j) = some u) := fun j u hj => by
      rcases hc with e | ⟨g', o', q, hs⟩
      · subst e; simp [pcs] at hj
      · cases q
        exact path_news hs j u hj
    have HON := hide3 (own_none w w.heap.size)
    clear hc
    have t1 : True := trivial
    go_enter Tryz.func80, Tryz.ntmps80
    go_wp2_with (first
      | (have _t := t1; at_builtin; refine wpList_append_own_wide _ rfl (.tmp 6) (.tmp 7) 29 rfl w.heap.size 9 i0 _ 1 16 Tryz.underlying29 hi hz0 hz1 hz2 rfl (by decide) (.slice none 0 0) 0 [] rfl HON.out ⟨g, o, sp⟩ p.length cap (pcs p) rfl (by rw [pcs_length]; omega) HNW.out (pcs_one p) (by unfold maxLen; omega) (by rw [Nat.zero_add]; omega) (Nat.le_refl _) ?_; intro v1 w1 ho hgr _; have HO1 : Hid (w1.ownsRow w.heap.size 9 1 v1 p.length (pcs p)) := (by have e := ho; rw [Nat.zero_add, List.nil_append] at e; exact e); have HB1 : Hid (Below w.heap.size w w1) := (Below.refl _ _).grown hgr (Nat.le_refl _) (fun q hq => by cases hq); have hs1 := HB1.out.size; obtain ⟨a1, c1, rfl⟩ := own_sl HO1.out; clear ho hgr t1)
      | (have _t := HO1; at_builtin; refine wpList_append_own_wide _ rfl (.tmp 9) (.tmp 11) 29 rfl w.heap.size 9 i0 _ 1 16 Tryz.underlying29 hi hz0 hz1 hz2 rfl (by decide) (.slice a1 p.length c1) p.length (pcs p) rfl (HO1.out.alloc _) ⟨w1.heap.size, 0, none⟩ 1 1 [.string s] rfl rfl (cell_one_new _ _ _) (fun u hu => by rw [List.mem_singleton.1 hu]; rfl) (by unfold maxLen; omega) (by omega) (by simp; omega) ?_; intro v2 w2 ho hgr _; obtain ⟨a2, c2, rfl, hp2, hb2⟩ := HFIN.out w1 _ w2 v2 HB1.out HO1.out ho hgr; have HP2 := hide3 hp2; have HB2 := hide3 hb2; clear ho hgr hp2 hb2))
    go_ret
    exact ⟨_, _, rfl, HP2.out, HB2.out⟩
end Go.Proofs.YtcclfaioicklaaaGreatDoor
