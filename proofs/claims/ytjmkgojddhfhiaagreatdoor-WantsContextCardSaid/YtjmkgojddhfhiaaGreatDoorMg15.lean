/- Pk9, Pk10, Wa1, Wa2, Rk1, laid in one text. -/
import Derived.Maps.OwnSet
import Derived.Deep.AppendLies
import Derived.Test.YtjmkgojddhfhiaaGreatDoorMg14
namespace Go.Proofs.YtjmkgojddhfhiaaGreatDoor
open Go.RowKit
set_option maxRecDepth 100000

theorem ba_toList (l : Sc.Bs) : (Sc.ba l).toList = l := by rw [ByteArray.toList_eq]; simp [Sc.ba]

/-- Words with a blank between. -/
def jnT (ws : List Sc.Bs) : ByteArray := ⟨(Lib.join ws [32]).toArray⟩
theorem Join_words {w : World} {v : Value} {ws : List Sc.Bs} (h : Sc.WordsAt w v ws) (hne : ws ≠ []) (hl : ws.length ≤ 1000000) (hj : (Lib.join ws [32]).length ≤ 1000000) :
    Calls Tryz.prog 256 #[v, .string ⟨#[32]⟩] w fun e w' => e = .returned (.string (jnT ws)) ∧ Below w.heap.size w w' := by
  obtain ⟨ad, cap, rfl, hc, hs⟩ := h
  rcases hs with hs | ⟨g, o, rfl, hg, hs⟩
  · exact (hne hs).elim
  · have e1 : (ws.map Sc.ba).map (·.data.toList) = ws := by
      rw [List.map_map]
      conv => rhs; rw [← List.map_id ws]
      exact List.map_congr_left fun x _ => by simp [Sc.ba]
    have := Tryz.strings_Join g o cap (ws.map Sc.ba) ⟨#[32]⟩ w (fun j x hx => by
      rw [List.getElem?_map] at hx
      cases hw : ws[j]? with
      | none => rw [hw] at hx; cases hx
      | some y =>
        rw [hw] at hx
        obtain ⟨hlt, rfl⟩ := List.getElem?_eq_some_iff.1 hw
        cases hx
        exact hs j hlt) hg (by rw [List.length_map]; omega) (by rw [List.length_map]; exact hc) (by rw [e1]; show (Lib.join ws [32]).length ≤ _; omega)
    rw [List.length_map, e1] at this
    exact this

/-- What readDep answers: the range, or an error's number. -/
def depE (q : Option ByteArray) (n : ByteArray) (ws : List Sc.Bs) : Int := if followB q n = true then (if parE (parR (jnT ws)) = 0 ∧ rangeB ((parL (parR (jnT ws))).map spR) = true then 0 else 21) else 23
/-- Nothing of a dependency, beside an error. -/
def DepQ (w : World) (n : ByteArray) (ws : List Sc.Bs) (er : Int) (e : Ending) (w' : World) : Prop := ∃ nm ad len cap, e = .returned (.tuple #[.agg #[.string nm, .slice ad len cap], .int .i64 er]) ∧ Below w.heap.size w w' ∧ (er = 0 → nm = n ∧ OwnS w' w.heap.size (.slice ad len cap) ((parL (parR (jnT ws))).map spR)) ∧ (er ≠ 0 → nm = ⟨#[]⟩ ∧ ad = none ∧ len = 0 ∧ cap = 0)
end Go.Proofs.YtjmkgojddhfhiaaGreatDoor
namespace Go.Proofs.YtjmkgojddhfhiaaGreatDoor
open Go.RowKit
set_option maxRecDepth 100000

/-- A dependency's variable that may be written. -/
def BxDF (w : World) (N : Nat) (s : ByteArray) (u : Value) : Prop := BxD w N s u ∧ w.frozen? ⟨N, 0, none⟩ = false ∧ w.frozen? ⟨N, 1, none⟩ = false
theorem keepBxDF (N : Nat) (s : ByteArray) (u : Value) : KeepP fun w1 => BxDF w1 N s u := fun _ _ h hb =>
  ⟨keepBxD _ _ _ _ _ h.1 hb, (hb.frozen (p := ⟨N, 0, none⟩) h.1.2.2).trans h.2.1, (hb.frozen (p := ⟨N, 1, none⟩) h.1.2.2).trans h.2.2⟩
theorem BxDF.new {w : World} {N : Nat} (hN : w.heap.size = N) (s : ByteArray) (u : Value) : BxDF (w.alloc (.cells #[.string s, u] 68)) N s u := by
  refine ⟨BxD.new hN _ _, ?_, ?_⟩ <;> subst hN <;> simp
theorem set2 {w : World} {N : Nat} {x y : Value} (j0 : w.cell? ⟨N, 0, none⟩ = some x) (j1 : w.cell? ⟨N, 1, none⟩ = some y) :
    (∀ u, (w.setCell ⟨N, 0, none⟩ u).cell? ⟨N, 0, none⟩ = some u) ∧ (∀ u, (w.setCell ⟨N, 0, none⟩ u).cell? ⟨N, 1, none⟩ = some y) ∧ (∀ u v, ((w.setCell ⟨N, 0, none⟩ u).setCell ⟨N, 1, none⟩ v).cell? ⟨N, 0, none⟩ = some u) ∧ (∀ u v, ((w.setCell ⟨N, 0, none⟩ u).setCell ⟨N, 1, none⟩ v).cell? ⟨N, 1, none⟩ = some v) := by
  have k1 : ∀ u, (w.setCell ⟨N, 0, none⟩ u).cell? ⟨N, 1, none⟩ = some y := fun u => (World.cell?_setCell_other _ _ _ _ (by simp)).trans j1
  have k0 : ∀ u, (w.setCell ⟨N, 0, none⟩ u).cell? ⟨N, 0, none⟩ = some u := fun u => World.cell?_setCell_same _ _ _ j0
  exact ⟨k0, k1, fun u v => (World.cell?_setCell_other _ _ _ _ (by simp)).trans (k0 u), fun u v => World.cell?_setCell_same _ _ _ (k1 u)⟩
theorem below_set2 {w w' : World} {N B : Nat} {x y : Value} (hN : B ≤ N) (h : Below B w w') : Below B w ((w'.setCell ⟨N, 0, none⟩ x).setCell ⟨N, 1, none⟩ y) := (h.setCell (p := ⟨N, 0, none⟩) hN _).setCell (p := ⟨N, 1, none⟩) hN _

theorem DepQ.err {w w' : World} {n : ByteArray} {ws : List Sc.Bs} {er : Int} (h : er ≠ 0) (hb : Below w.heap.size w w') : DepQ w n ws er (.returned (.tuple #[.agg #[.string ⟨#[]⟩, .slice none 0 0], .int .i64 er])) w' := ⟨⟨#[]⟩, none, 0, 0, rfl, hb, fun e => absurd e h, fun _ => ⟨rfl, rfl, rfl, rfl⟩⟩
theorem DepQ.ok {w w' : World} {n : ByteArray} {ws : List Sc.Bs} {ad : Option Addr} {len cap : Nat} (hb : Below w.heap.size w w') (h : OwnS w' w.heap.size (.slice ad len cap) ((parL (parR (jnT ws))).map spR)) : DepQ w n ws 0 (.returned (.tuple #[.agg #[.string n, .slice ad len cap], .int .i64 0])) w' := ⟨n, ad, len, cap, rfl, hb, fun _ => ⟨rfl, h⟩, fun e => absurd rfl e⟩

end Go.Proofs.YtjmkgojddhfhiaaGreatDoor
namespace Go.Proofs.YtjmkgojddhfhiaaGreatDoor
open Go.RowKit Go.Maps Go.WideMaps
set_option maxRecDepth 100000

theorem new_cell {W : World} {cs : Array Value} {t : TypeId} {N i : Nat} {v : Value} (hN : W.heap.size = N) (h : cs[i]? = some v) : (W.alloc (.cells cs t)).cell? ⟨N, i, none⟩ = some v ∧ (W.alloc (.cells cs t)).frozen? ⟨N, i, none⟩ = false := by
  subst hN
  have hb : (W.alloc (.cells cs t)).heap[W.heap.size]? = some (.cells cs t (0, 0)) := by
    show (W.heap.push _)[_]? = _
    rw [Array.getElem?_push, if_pos rfl]
  generalize W.alloc (.cells cs t) = W1 at *
  constructor
  · simp [World.cell?, hb, h]
  · simp [World.frozen?, hb]
/-- A map from names: what it tells of each. -/
def SmAt (w : World) (M n : Nat) (z : Value) (f : ByteArray → Option Value) : Prop := ∃ D : DataW Value, w.ownsMap Tryz.prog 9 heldR M n D ∧ IsMap D ∧ ∀ s : ByteArray, Maps.has D (keyS s) = (f s).isSome ∧ D.atKey (keyS s) (.held z) = .held ((f s).getD z)
theorem SmAt.lt {w : World} {M n : Nat} {z : Value} {f : ByteArray → Option Value} (h : SmAt w M n z f) : M < w.heap.size := by
  obtain ⟨D, h1, _⟩ := h
  exact h1.lt
theorem SmAt.isMap {w : World} {M n : Nat} {z : Value} {f : ByteArray → Option Value} (h : SmAt w M n z f) : ∃ es cl, w.heap[M]? = some (.map es cl) := by
  obtain ⟨D, ⟨es, cl, h1, _⟩, _⟩ := h
  exact ⟨es, cl, h1⟩
theorem SmAt.kept {w w' : World} {M n : Nat} {z : Value} {f : ByteArray → Option Value} (h : SmAt w M n z f) {row : Option Nat} (hg : w.grownBy w' row) (hr : some M ≠ row) : SmAt w' M n z f := by
  obtain ⟨D, h1, h2⟩ := h
  exact ⟨D, h1.kept hg hr, h2⟩
theorem SmAt.below {w w' : World} {M n : Nat} {z : Value} {f : ByteArray → Option Value} (h : SmAt w M n z f) (hb : Below w.heap.size w w') : SmAt w' M n z f := by
  have hl := h.lt
  obtain ⟨D, ⟨es, cl, h1, r⟩, h2⟩ := h
  exact ⟨D, ⟨es, cl, (hb.block M hl).trans h1, r⟩, h2⟩
theorem SmAt.more {w : World} {M n m : Nat} {z : Value} {f : ByteArray → Option Value} (h : SmAt w M n z f) (hm : n ≤ m) : SmAt w M m z f := by
  obtain ⟨D, h1, h2⟩ := h
  exact ⟨D, h1.mono hm, h2⟩
theorem SmAt.ext {w : World} {M n : Nat} {z : Value} {f g : ByteArray → Option Value} (h : SmAt w M n z f) (hf : ∀ s, f s = g s) : SmAt w M n z g := by
  obtain ⟨D, h1, h2, h3⟩ := h
  exact ⟨D, h1, h2, fun s => by rw [← hf]; exact h3 s⟩
theorem SmAt.new (w : World) (z : Value) : SmAt (w.alloc (.map #[] 0)) w.heap.size 0 z fun _ => none :=
  ⟨.map [], World.ownsMap_made (H := Value) w Tryz.prog 9 heldR, ⟨[], rfl⟩, fun _ => ⟨rfl, rfl⟩⟩
theorem SmAt.look2 {w : World} {M n : Nat} {z : Value} {f : ByteArray → Option Value} (h : SmAt w M n z f) {t e : TypeId} (ht : Tryz.prog.underlying t = some (.map 9 e)) (hz : (zeroValue e).run Tryz.prog w = .ok z w) {s : ByteArray} (hs : s.size ≤ maxLen) : (Instr.lookup t (.map (some M)) (.string s) true).run Tryz.prog w = .ok (.tuple #[(f s).getD z, .bool (f s).isSome]) w := by
  obtain ⟨D, h1, _, h2⟩ := h
  obtain ⟨v, ps, hr, hv⟩ := h1.look_ok keyedS ht hz (zd := .held z) (zp := []) rfl (keyOfS hs)
  rw [(h2 s).1] at hr
  rw [(h2 s).2] at hv
  rw [hr, heldR_inv hv]
theorem SmAt.look1 {w : World} {M n : Nat} {z : Value} {f : ByteArray → Option Value} (h : SmAt w M n z f) {t e : TypeId} (ht : Tryz.prog.underlying t = some (.map 9 e)) (hz : (zeroValue e).run Tryz.prog w = .ok z w) {s : ByteArray} (hs : s.size ≤ maxLen) : (Instr.lookup t (.map (some M)) (.string s) false).run Tryz.prog w = .ok ((f s).getD z) w := by
  obtain ⟨D, h1, _, h2⟩ := h
  obtain ⟨v, ps, hr, hv⟩ := h1.lookup keyedS ht hz (zd := .held z) (zp := []) rfl (keyOfS hs)
  rw [(h2 s).2] at hv
  rw [hr, heldR_inv hv]
theorem isMap_putV {D : DataW Value} (h : IsMap D) (k : Lit) (d : DataW Value) : IsMap (D.put k d) := by
  obtain ⟨es, rfl⟩ := h
  exact ⟨_, rfl⟩
theorem SmAt.put {w : World} {M n : Nat} {z : Value} {f : ByteArray → Option Value} (h : SmAt w M n z f) {t e : TypeId} (ht : Tryz.prog.underlying t = some (.map 9 e)) (hn : n < maxLen) {s : ByteArray} (hs : s.size ≤ maxLen) (v : Value) : ∃ w', (Instr.mapUpdate t (.map (some M)) (.string s) v).run Tryz.prog w = .ok () w' ∧ SmAt w' M (n + 1) z (fun u => if u = s then some v else f u) ∧ w.grownBy w' (some M) := by
  obtain ⟨D, h1, hm, h2⟩ := h
  obtain ⟨w', hr, ho, hg⟩ := h1.update keyedS ht hn (keyOfS hs) (val := v) (d := .held v) (ps := []) rfl
  refine ⟨w', hr, ⟨_, ho, isMap_putV hm _ _, fun u => ?_⟩, hg⟩
  show Maps.has _ _ = (if u = s then some v else f u).isSome ∧ DataW.atKey _ _ _ = .held ((if u = s then some v else f u).getD z)
  by_cases e : u = s
  · subst e
    rw [has_put_same hm (isKeyS u), atKey_put_same hm (isKeyS u), if_pos rfl]
    exact ⟨rfl, rfl⟩
  · rw [has_put_other fun k => e (keyS_inj k), atKey_put_other fun k => e (keyS_inj k), if_neg e]
    exact h2 u

/-- The first place of a name. -/
def isD (s : ByteArray) (d : Dp) : Bool := decide (d.nm = s)
def firstI (O : List Dp) (s : ByteArray) : Option Value := (O.findIdx? (isD s)).map fun i : Nat => Value.int .i64 (i : Int)
theorem firstI_snoc (O : List Dp) (d : Dp) (s : ByteArray) : firstI (O ++ [d]) s = if (firstI O s).isSome = true then firstI O s else (if d.nm = s then some (.int .i64 O.length) else none) := by
  unfold firstI
  rw [List.findIdx?_append]
  cases h : O.findIdx? (isD s) with
  | some i => simp
  | none => by_cases e : d.nm = s <;> simp [isD, e]
theorem firstI_there {O : List Dp} {d : Dp} (h : (firstI O d.nm).isSome = true) (s : ByteArray) : firstI O s = firstI (O ++ [d]) s := by
  rw [firstI_snoc]
  by_cases e : (firstI O s).isSome = true
  · rw [if_pos e]
  · rw [if_neg e, if_neg (fun q => e (by rw [← q]; exact h))]
    cases hf : firstI O s with
    | none => rfl
    | some v => rw [hf] at e; exact absurd rfl e
theorem firstI_put {O : List Dp} {d : Dp} (h : (firstI O d.nm).isSome = false) (s : ByteArray) : (if s = d.nm then some (.int .i64 O.length) else firstI O s) = firstI (O ++ [d]) s := by
  rw [firstI_snoc]
  by_cases e : s = d.nm
  · subst e
    rw [if_pos rfl, h, if_neg (by decide), if_pos rfl]
  · rw [if_neg e]
    by_cases q : (firstI O s).isSome = true
    · rw [if_pos q]
    · rw [if_neg q, if_neg (fun x => e x.symm)]
      cases hf : firstI O s with
      | none => rfl
      | some v => rw [hf] at q; exact absurd rfl q
theorem DepsAt.el {w : World} {v : Value} {O : List Dp} (h : DepsAt w v O) : ∃ ad cap, v = .slice ad O.length cap ∧ O.length ≤ cap ∧ ∀ k (_ : k < O.length), ∃ g o, ad = some ⟨g, o, none⟩ ∧ ∃ au nu cu, DpIn w g (o + k * 2) O[k] (.slice au nu cu) := by
  obtain ⟨ad, cap, hv, hc, hl⟩ := h
  refine ⟨ad, cap, hv, hc, fun k hk => ?_⟩
  rcases hl with e | ⟨g, o, e, _, hs⟩
  · rw [e] at hk; cases hk
  · obtain ⟨u, hu⟩ := hs k hk
    obtain ⟨au, nu, cu, rfl, _⟩ := hu.2.2.1.1.2
    exact ⟨g, o, e, au, nu, cu, hu⟩

set_option maxHeartbeats 6400000 in
theorem ovs_any {w : World} {O : List Dp} {x1 x2 x3 : Option Addr} {y1 y2 y3 z1 z2 z3 : Nat} {v4 : Value} (h : DepsAt w v4 O) (hlen : O.length ≤ 9223372036854775807) (hn : ∀ d ∈ O, d.nm.size ≤ 9223372036854775807) : Calls Tryz.prog 85 #[.agg #[.slice x1 y1 z1, .slice x2 y2 z2, .slice x3 y3 z3, v4]] w fun e w' => e = .returned (.agg #[v4, .map (some (w.heap.size + 2))]) ∧ (∃ n, SmAt w' (w.heap.size + 2) n (.int .i64 0) (firstI O)) ∧ Below w.heap.size w w' := by
  have hmm := @run_makeMap Tryz.prog
  obtain ⟨ad, cap, rfl, hcap, hel⟩ := h.el
  have HEL := hide3 hel
  have HN := hide3 hn
  clear h hel hn
  go_enter Tryz.func85, Tryz.ntmps85
  have HBW : Hid (Below w.heap.size w ((((w.alloc (.cells #[.slice x1 y1 z1, .slice x2 y2 z2, .slice x3 y3 z3, .slice ad O.length cap] 60)).alloc (.cells #[.slice none 0 0, .map none] 133)).alloc (.map #[] 0)).alloc (.cells #[.slice ad O.length cap, .map (some (w.heap.size + 1 + 1))] 133))) := below_then (below_then (boxB2 _ _ _) (boxB _ _)) (boxB _ _)
  have HM0 : Hid (SmAt ((((w.alloc (.cells #[.slice x1 y1 z1, .slice x2 y2 z2, .slice x3 y3 z3, .slice ad O.length cap] 60)).alloc (.cells #[.slice none 0 0, .map none] 133)).alloc (.map #[] 0)).alloc (.cells #[.slice ad O.length cap, .map (some (w.heap.size + 1 + 1))] 133)) (w.heap.size + 1 + 1) 0 (.int .i64 0) (firstI (O.take 0))) := by
    have e : ((w.alloc (.cells #[.slice x1 y1 z1, .slice x2 y2 z2, .slice x3 y3 z3, .slice ad O.length cap] 60)).alloc (.cells #[.slice none 0 0, .map none] 133)).heap.size = w.heap.size + 1 + 1 := by simp
    have q := SmAt.new ((w.alloc (.cells #[.slice x1 y1 z1, .slice x2 y2 z2, .slice x3 y3 z3, .slice ad O.length cap] 60)).alloc (.cells #[.slice none 0 0, .map none] 133)) (.int .i64 0)
    rw [e] at q
    exact (q.below (boxB _ _)).ext fun s => rfl
  have c30 : ((((w.alloc (.cells #[.slice x1 y1 z1, .slice x2 y2 z2, .slice x3 y3 z3, .slice ad O.length cap] 60)).alloc (.cells #[.slice none 0 0, .map none] 133)).alloc (.map #[] 0)).alloc (.cells #[.slice ad O.length cap, .map (some (w.heap.size + 1 + 1))] 133)).cell? ⟨w.heap.size + 1 + 1 + 1, 0, none⟩ = some (.slice ad O.length cap) := (new_cell (by simp) rfl).1
  have c31 : ((((w.alloc (.cells #[.slice x1 y1 z1, .slice x2 y2 z2, .slice x3 y3 z3, .slice ad O.length cap] 60)).alloc (.cells #[.slice none 0 0, .map none] 133)).alloc (.map #[] 0)).alloc (.cells #[.slice ad O.length cap, .map (some (w.heap.size + 1 + 1))] 133)).cell? ⟨w.heap.size + 1 + 1 + 1, 1, none⟩ = some (.map (some (w.heap.size + 1 + 1))) := (new_cell (by simp) rfl).1
  have r0 : ((((w.alloc (.cells #[.slice x1 y1 z1, .slice x2 y2 z2, .slice x3 y3 z3, .slice ad O.length cap] 60)).alloc (.cells #[.slice none 0 0, .map none] 133)).alloc (.map #[] 0)).alloc (.cells #[.slice ad O.length cap, .map (some (w.heap.size + 1 + 1))] 133)).cell? ⟨w.heap.size + 1, 0, none⟩ = some (.slice none 0 0) := ((boxB2 _ _ _).cell (p := ⟨w.heap.size + 1, 0, none⟩) (by simp)).trans (new_cell (by simp) rfl).1
  have r1 : ((((w.alloc (.cells #[.slice x1 y1 z1, .slice x2 y2 z2, .slice x3 y3 z3, .slice ad O.length cap] 60)).alloc (.cells #[.slice none 0 0, .map none] 133)).alloc (.map #[] 0)).alloc (.cells #[.slice ad O.length cap, .map (some (w.heap.size + 1 + 1))] 133)).cell? ⟨w.heap.size + 1, 1, none⟩ = some (.map none) := ((boxB2 _ _ _).cell (p := ⟨w.heap.size + 1, 1, none⟩) (by simp)).trans (new_cell (by simp) rfl).1
  have f0 : ((((w.alloc (.cells #[.slice x1 y1 z1, .slice x2 y2 z2, .slice x3 y3 z3, .slice ad O.length cap] 60)).alloc (.cells #[.slice none 0 0, .map none] 133)).alloc (.map #[] 0)).alloc (.cells #[.slice ad O.length cap, .map (some (w.heap.size + 1 + 1))] 133)).frozen? ⟨w.heap.size + 1, 0, none⟩ = false := ((boxB2 _ _ _).frozen (p := ⟨w.heap.size + 1, 0, none⟩) (by simp)).trans (new_cell (v := .slice none 0 0) (by simp) rfl).2
  have f1 : ((((w.alloc (.cells #[.slice x1 y1 z1, .slice x2 y2 z2, .slice x3 y3 z3, .slice ad O.length cap] 60)).alloc (.cells #[.slice none 0 0, .map none] 133)).alloc (.map #[] 0)).alloc (.cells #[.slice ad O.length cap, .map (some (w.heap.size + 1 + 1))] 133)).frozen? ⟨w.heap.size + 1, 1, none⟩ = false := ((boxB2 _ _ _).frozen (p := ⟨w.heap.size + 1, 1, none⟩) (by simp)).trans (new_cell (v := .map none) (by simp) rfl).2
  have hsz : ((((w.alloc (.cells #[.slice x1 y1 z1, .slice x2 y2 z2, .slice x3 y3 z3, .slice ad O.length cap] 60)).alloc (.cells #[.slice none 0 0, .map none] 133)).alloc (.map #[] 0)).alloc (.cells #[.slice ad O.length cap, .map (some (w.heap.size + 1 + 1))] 133)).heap.size = w.heap.size + 1 + 1 + 1 + 1 := by simp
  go_wp2_with fail
  generalize ((((w.alloc (.cells #[.slice x1 y1 z1, .slice x2 y2 z2, .slice x3 y3 z3, .slice ad O.length cap] 60)).alloc (.cells #[.slice none 0 0, .map none] 133)).alloc (.map #[] 0)).alloc (.cells #[.slice ad O.length cap, .map (some (w.heap.size + 1 + 1))] 133)) = W at *
  obtain ⟨M, hM⟩ : ∃ M, M = w.heap.size + 1 + 1 := ⟨_, rfl⟩
  have hM2 : w.heap.size + 2 = M := by rw [hM]
  rw [← hM] at HM0 c30 c31 hsz
  rw [hM2]
  try rw [← hM]
  have HSZ := hide3 hsz
  have HMW := hide3 hM
  clear hM hM2 hsz
  go_loopw [15] (fun vi wr => ∃ k : Nat, k ≤ O.length ∧ vi = .int .i64 k ∧ SmAt wr M k (.int .i64 0) (firstI (O.take k)) ∧ W.grownBy wr (some M)) (fun vi _ => O.length - (intOf vi).toNat)
  case atStart => exact ⟨0, Nat.zero_le _, rfl, HM0.out, ⟨rfl, rfl, rfl, Nat.le_refl _, fun _ _ _ => rfl⟩⟩
  case round =>
    obtain ⟨k, hk, rfl, hsm, hgr⟩ := hrel
    have HS := hide3 hsm
    have HG := hide3 hgr
    have HBR : Hid (Below w.heap.size w wr) := HBW.out.grown hgr HBW.out.size (fun j hj => by cases hj; have := HMW.out; omega)
    have d30 := (hgr.cell_far ⟨M + 1, 0, none⟩ (by have := HSZ.out; simp only; omega) (fun q => by have := Option.some.inj q; simp only at this; omega)).trans c30
    have d31 := (hgr.cell_far ⟨M + 1, 1, none⟩ (by have := HSZ.out; simp only; omega) (fun q => by have := Option.some.inj q; simp only at this; omega)).trans c31
    clear hsm hgr
    by_cases hlt : k < O.length
    · have hki : (k : Int) < (O.length : Int) := by omega
      obtain ⟨g, o, rfl, au, nu, cu, e0, e1, _, hg⟩ := HEL.out k hlt
      have hnm := HN.out _ (List.getElem_mem hlt)
      have HTK : Hid (O.take (k + 1) = O.take k ++ [O[k]]) := List.take_succ_eq_append_getElem hlt
      have HTL : Hid ((O.take k).length = k) := by unfold Hid; rw [List.length_take]; omega
      have p0 := (HBR.out.cell (p := ⟨g, o + k * 2, none⟩) hg).trans e0
      have p1 := (HBR.out.cell (p := ⟨g, o + k * 2 + 1, none⟩) hg).trans e1
      generalize O[k] = d at *
      have HS1 : Hid (SmAt (wr.alloc (.cells #[.string d.nm, .slice au nu cu] 68)) M k (.int .i64 0) (firstI (O.take k))) := HS.out.below (boxB _ _)
      have hl := HS1.out.look2 Tryz.underlying131 (zeroInt _) (s := d.nm) (by unfold maxLen; omega)
      have HG1 : Hid (W.grownBy (wr.alloc (.cells #[.string d.nm, .slice au nu cu] 68)) (some M)) := HG.out.trans (below_any (boxB _ _))
      have hmr := HS.out.lt
      have hd30 := ((boxB wr (.cells #[.string d.nm, .slice au nu cu] 68)).cell (p := ⟨M + 1, 0, none⟩) (by have := HG.out.size; have := HSZ.out; simp only; omega)).trans d30
      have hd31 := ((boxB wr (.cells #[.string d.nm, .slice au nu cu] 68)).cell (p := ⟨M + 1, 1, none⟩) (by have := HG.out.size; have := HSZ.out; simp only; omega)).trans d31
      have HT := hide3 (firstI_there (O := O.take k) (d := d))
      have HU := hide3 (firstI_put (O := O.take k) (d := d))
      rw [← HTK.out, HTL.out] at HU
      rw [← HTK.out] at HT
      clear HTK HTL e0 e1
      cases hf : firstI (O.take k) d.nm with
      | some v =>
        rw [hf] at hl HT
        simp only [Option.isSome, Option.getD] at hl
        clear HU hf
        go_wp2_with fail
        exact ⟨⟨k + 1, by omega, by go_num, (HS1.out.more (Nat.le_succ _)).ext (HT.out rfl), HG1.out⟩, by simp [intOf]; omega⟩
      | none =>
        rw [hf] at hl HU
        simp only [Option.isSome, Option.getD] at hl
        obtain ⟨w2, hrun, hs2, hg2⟩ := HS1.out.put Tryz.underlying131 (by unfold maxLen; omega) (s := d.nm) (by unfold maxLen; omega) (.int .i64 k)
        have HS2 := hide3 (hs2.ext (HU.out rfl))
        have HG2 := hide3 (HG1.out.trans hg2)
        clear HT hf hs2 hg2
        go_wp2_with fail
        exact ⟨⟨k + 1, by omega, by go_num, HS2.out, HG2.out⟩, by simp [intOf]; omega⟩
    · obtain rfl : k = O.length := by omega
      have hki : ¬ ((O.length : Int) < (O.length : Int)) := by omega
      have HSF : Hid (SmAt wr M O.length (.int .i64 0) (firstI O)) := by
        have e := HS.out
        rw [List.take_length] at e
        exact e
      have hne : some (w.heap.size + 1) ≠ some M := fun q => by have := Option.some.inj q; have := HMW.out; omega
      have hwl : w.heap.size + 1 < W.heap.size := by have := HSZ.out; have := HMW.out; omega
      have s0 := (HG.out.cell_far ⟨w.heap.size + 1, 0, none⟩ hwl hne).trans r0
      have s1 := (HG.out.cell_far ⟨w.heap.size + 1, 1, none⟩ hwl hne).trans r1
      have t0 := (HG.out.frozen_far ⟨w.heap.size + 1, 0, none⟩ hwl hne).trans f0
      have t1 := (HG.out.frozen_far ⟨w.heap.size + 1, 1, none⟩ hwl hne).trans f1
      have s2 := set2 s0 s1
      have HFN : Hid (∀ u v, (∃ n, SmAt ((wr.setCell ⟨w.heap.size + 1, 0, none⟩ u).setCell ⟨w.heap.size + 1, 1, none⟩ v) M n (.int .i64 0) (firstI O)) ∧ Below w.heap.size w ((wr.setCell ⟨w.heap.size + 1, 0, none⟩ u).setCell ⟨w.heap.size + 1, 1, none⟩ v)) := fun u v => by
        refine ⟨⟨_, HSF.out.kept (row := some (w.heap.size + 1)) ?_ (fun q => hne q.symm)⟩, below_set2 (by omega) HBR.out⟩
        exact ⟨rfl, rfl, rfl, by simp, fun j _ hj => (Below.heap_setCell _ _ _ j (fun e => hj (by rw [e]))).trans (Below.heap_setCell _ _ _ j (fun e => hj (by rw [e])))⟩
      clear HS r0 r1 f0 f1 c30 c31
      go_wp2_with fail
      all_goals try simp only [Exit.inBlock, Exit.then]
      refine bodyPost_ret (by simp [results, Tryz.results85, s2, go_sem]; try rfl) rfl ?_
      have e2 : w.heap.size + 2 = M := HMW.out.symm
      rw [e2]
      exact ⟨rfl, (HFN.out _ _).1, (HFN.out _ _).2⟩
end Go.Proofs.YtjmkgojddhfhiaaGreatDoor
namespace Go.Proofs.YtjmkgojddhfhiaaGreatDoor
open Go.RowKit Go.Maps Go.WideMaps
set_option maxRecDepth 100000

/-- The range of a dependency. -/
def rangeD (O : List Dp) (d : Dp) : List Sp := match O.find? (isD d.nm) with
  | some x => x.rg
  | none => d.rg
theorem first_none {O : List Dp} {s : ByteArray} (h : firstI O s = none) : O.find? (isD s) = none := by
  unfold firstI at h
  rw [Option.map_eq_none_iff, List.findIdx?_eq_none_iff] at h
  rw [List.find?_eq_none]
  exact fun x hx => Bool.eq_false_iff.1 (h x hx)
theorem first_some {O : List Dp} {s : ByteArray} {v : Value} (h : firstI O s = some v) : ∃ i, ∃ hi : i < O.length, v = .int .i64 i ∧ O.find? (isD s) = some O[i] := by
  unfold firstI at h
  rw [Option.map_eq_some_iff] at h
  obtain ⟨i, h1, h2⟩ := h
  rw [List.findIdx?_eq_some_iff_getElem] at h1
  obtain ⟨hi, h3, h4⟩ := h1
  refine ⟨i, hi, h2.symm, ?_⟩
  rw [List.find?_eq_some_iff_getElem]
  refine ⟨h3, i, hi, rfl, fun j hj => ?_⟩
  have := h4 j hj
  simpa using this

set_option maxHeartbeats 3200000 in
theorem range_any {w : World} {O : List Dp} {v4 : Value} (h : DepsAt w v4 O) {M n : Nat} (hs : SmAt w M n (.int .i64 0) (firstI O)) (d : Dp) {au : Option Addr} {nu cu : Nat} (hd : SpansC w (.slice au nu cu) d.rg) (hdl : d.rg.length ≤ 9223372036854775807) (hn : d.nm.size ≤ 9223372036854775807) : Calls Tryz.prog 91 #[.agg #[v4, .map (some M)], .agg #[.string d.nm, .slice au nu cu]] w fun e w' => ∃ v, e = .returned v ∧ SpansC w' v (rangeD O d) ∧ (rangeD O d).length ≤ 9223372036854775807 ∧ Below w.heap.size w w' := by
  obtain ⟨ad, cap, rfl, hcap, hel⟩ := h.el
  have HEL := hide3 hel
  have HD := hide3 hd
  have HS : Hid (SmAt ((w.alloc (.cells #[.slice ad O.length cap, .map (some M)] 133)).alloc (.cells #[.string d.nm, .slice au nu cu] 68)) M n (.int .i64 0) (firstI O)) := hs.below (boxB2 _ _ _)
  have hl := HS.out.look2 Tryz.underlying131 (zeroInt _) (s := d.nm) (by unfold maxLen; omega)
  have HB : Hid (Below w.heap.size w ((w.alloc (.cells #[.slice ad O.length cap, .map (some M)] 133)).alloc (.cells #[.string d.nm, .slice au nu cu] 68))) := boxB2 _ _ _
  have HFN : Hid (∀ u R, SpansC w u R → SpansC ((w.alloc (.cells #[.slice ad O.length cap, .map (some M)] 133)).alloc (.cells #[.string d.nm, .slice au nu cu] 68)) u R) := fun u R hu => ⟨hu.1.below HB.out, hu.2⟩
  cases hf : firstI O d.nm with
  | none =>
    have HR : Hid (rangeD O d = d.rg) := by
      unfold Hid rangeD
      rw [first_none hf]
    rw [hf] at hl
    simp only [Option.isSome, Option.getD] at hl
    clear hf h hel hd hs
    go_enter Tryz.func91, Tryz.ntmps91
    go_wp2_with fail
    go_ret
    exact ⟨_, rfl, by rw [HR.out]; exact HFN.out _ _ HD.out, by rw [HR.out]; exact hdl, HB.out⟩
  | some v =>
    obtain ⟨i, hi, rfl, hx⟩ := first_some hf
    have HR : Hid (rangeD O d = O[i].rg) := by
      unfold Hid rangeD
      rw [hx]
    rw [hf] at hl
    simp only [Option.isSome, Option.getD] at hl
    obtain ⟨g, o, rfl, au2, nu2, cu2, e0, e1, hsp, hg⟩ := HEL.out i hi
    have p1 := (HB.out.cell (p := ⟨g, o + i * 2 + 1, none⟩) hg).trans e1
    have hki : (i : Int) < (O.length : Int) := by omega
    have HSP := hide3 hsp
    clear hf h hel hd hs hx e0 e1 hsp
    go_enter Tryz.func91, Tryz.ntmps91
    go_wp2_with fail
    go_ret
    exact ⟨_, rfl, by rw [HR.out]; exact HFN.out _ _ HSP.out.1, by rw [HR.out]; exact HSP.out.2, HB.out⟩

/-- What an environment tells of a name. -/
def isN (s : ByteArray) (p : Pn) : Bool := decide (p.nm = s)
def verV (p : Pn) : Value := .agg #[.int .i64 p.a, .int .i64 p.b, .int .i64 p.c]
def firstV (E : List Pn) (s : ByteArray) : Option Value := (E.find? (isN s)).map verV
def zV : Value := .agg #[.int .i64 0, .int .i64 0, .int .i64 0]
theorem zeroVv (w : World) : (zeroValue 31).run Tryz.prog w = .ok zV w := by kernel_rfl
theorem firstV_snoc (E : List Pn) (p : Pn) (s : ByteArray) : firstV (E ++ [p]) s = if (firstV E s).isSome = true then firstV E s else (if p.nm = s then some (verV p) else none) := by
  unfold firstV
  rw [List.find?_append]
  cases h : E.find? (isN s) with
  | some i => simp
  | none => by_cases e : p.nm = s <;> simp [isN, e]
theorem firstV_there {E : List Pn} {p : Pn} (h : (firstV E p.nm).isSome = true) (s : ByteArray) : firstV E s = firstV (E ++ [p]) s := by
  rw [firstV_snoc]
  by_cases e : (firstV E s).isSome = true
  · rw [if_pos e]
  · rw [if_neg e, if_neg (fun q => e (by rw [← q]; exact h))]
    cases hf : firstV E s with
    | none => rfl
    | some v => rw [hf] at e; exact absurd rfl e
theorem firstV_put {E : List Pn} {p : Pn} (h : (firstV E p.nm).isSome = false) (s : ByteArray) : (if s = p.nm then some (verV p) else firstV E s) = firstV (E ++ [p]) s := by
  rw [firstV_snoc]
  by_cases e : s = p.nm
  · subst e
    rw [if_pos rfl, h, if_neg (by decide), if_pos rfl]
  · rw [if_neg e]
    by_cases q : (firstV E s).isSome = true
    · rw [if_pos q]
    · rw [if_neg q, if_neg (fun x => e x.symm)]
      cases hf : firstV E s with
      | none => rfl
      | some v => rw [hf] at q; exact absurd rfl q
theorem PinsAt.el {w : World} {v : Value} {E : List Pn} (h : PinsAt w v E) : ∃ ad cap, v = .slice ad E.length cap ∧ E.length ≤ cap ∧ ∀ k (_ : k < E.length), ∃ g o, ad = some ⟨g, o, none⟩ ∧ PnIn w g (o + k * 4) E[k] := by
  obtain ⟨ad, cap, hv, hc, hl⟩ := h
  refine ⟨ad, cap, hv, hc, fun k hk => ?_⟩
  rcases hl with e | ⟨g, o, e, _, hs⟩
  · rw [e] at hk; cases hk
  · exact ⟨g, o, e, hs k hk⟩

set_option maxHeartbeats 6400000 in
theorem fv_any {w : World} {E : List Pn} {v : Value} (h : PinsAt w v E) (hlen : E.length ≤ 9223372036854775807) (hn : ∀ p ∈ E, p.nm.size ≤ 9223372036854775807) : Calls Tryz.prog 92 #[v] w fun e w' => e = .returned (.map (some w.heap.size)) ∧ (∃ n, SmAt w' w.heap.size n zV (firstV E)) ∧ Below w.heap.size w w' := by
  have hmm := @run_makeMap Tryz.prog
  obtain ⟨ad, cap, rfl, hcap, hel⟩ := h.el
  have HEL := hide3 hel
  have HN := hide3 hn
  clear h hel hn
  go_enter Tryz.func92, Tryz.ntmps92
  go_wp2_with fail
  go_loopw [11] (fun vi wr => ∃ k : Nat, k ≤ E.length ∧ vi = .int .i64 k ∧ SmAt wr w.heap.size k zV (firstV (E.take k)) ∧ Below w.heap.size w wr) (fun vi _ => E.length - (intOf vi).toNat)
  case atStart => exact ⟨0, Nat.zero_le _, rfl, (SmAt.new w zV).ext (fun s => rfl), boxB _ _⟩
  case round =>
    obtain ⟨k, hk, rfl, hsm, hb⟩ := hrel
    have HS := hide3 hsm
    have HB := hide3 hb
    clear hsm hb
    by_cases hlt : k < E.length
    · have hki : (k : Int) < (E.length : Int) := by omega
      obtain ⟨g, o, rfl, ⟨e0, e1, e2, e3⟩, hg⟩ := HEL.out k hlt
      have hnm := HN.out _ (List.getElem_mem hlt)
      have HTK : Hid (E.take (k + 1) = E.take k ++ [E[k]]) := List.take_succ_eq_append_getElem hlt
      have p0 := (HB.out.cell (p := ⟨g, o + k * 4, none⟩) hg).trans e0
      have p1 := (HB.out.cell (p := ⟨g, o + k * 4 + 1, none⟩) hg).trans e1
      have p2 := (HB.out.cell (p := ⟨g, o + k * 4 + 2, none⟩) hg).trans e2
      have p3 := (HB.out.cell (p := ⟨g, o + k * 4 + 3, none⟩) hg).trans e3
      generalize E[k] = d at *
      have HS1 : Hid (SmAt (wr.alloc (.cells #[.string d.nm, .int .i64 d.a, .int .i64 d.b, .int .i64 d.c] 56)) w.heap.size k zV (firstV (E.take k))) := HS.out.below (boxB _ _)
      have hl := HS1.out.look2 Tryz.underlying141 (zeroVv _) (s := d.nm) (by unfold maxLen; omega)
      have HB1 : Hid (Below w.heap.size w (wr.alloc (.cells #[.string d.nm, .int .i64 d.a, .int .i64 d.b, .int .i64 d.c] 56))) := below_then HB.out (boxB _ _)
      have HT := hide3 (firstV_there (E := E.take k) (p := d))
      have HU := hide3 (firstV_put (E := E.take k) (p := d))
      rw [← HTK.out] at HT HU
      have q0 : (wr.alloc (.cells #[.string d.nm, .int .i64 d.a, .int .i64 d.b, .int .i64 d.c] 56)).cell? ⟨wr.heap.size, 0, none⟩ = some (.string d.nm) := by simp
      have q1 : (wr.alloc (.cells #[.string d.nm, .int .i64 d.a, .int .i64 d.b, .int .i64 d.c] 56)).cell? ⟨wr.heap.size, 1, none⟩ = some (.int .i64 d.a) := by simp
      have q2 : (wr.alloc (.cells #[.string d.nm, .int .i64 d.a, .int .i64 d.b, .int .i64 d.c] 56)).cell? ⟨wr.heap.size, 2, none⟩ = some (.int .i64 d.b) := by simp
      have q3 : (wr.alloc (.cells #[.string d.nm, .int .i64 d.a, .int .i64 d.b, .int .i64 d.c] 56)).cell? ⟨wr.heap.size, 3, none⟩ = some (.int .i64 d.c) := by simp
      clear HTK e0 e1 e2 e3
      cases hf : firstV (E.take k) d.nm with
      | some v =>
        obtain ⟨x, hx⟩ : ∃ x : Pn, v = verV x := by
          unfold firstV at hf
          rw [Option.map_eq_some_iff] at hf
          obtain ⟨x, _, hx⟩ := hf
          exact ⟨x, hx.symm⟩
        subst hx
        rw [hf] at hl HT
        simp only [Option.isSome, Option.getD, verV] at hl
        clear HU hf
        go_wp2_with fail
        exact ⟨⟨k + 1, by omega, by go_num, ((HS1.out.below (boxB _ _)).more (Nat.le_succ _)).ext (HT.out rfl), below_then HB1.out (boxB _ _)⟩, by simp [intOf]; omega⟩
      | none =>
        rw [hf] at hl HU
        simp only [Option.isSome, Option.getD, zV] at hl
        obtain ⟨w2, hrun, hs2, hg2⟩ := (HS1.out.below (boxB _ (.cells #[.int .i64 0, .int .i64 0, .int .i64 0] 31))).put Tryz.underlying141 (by unfold maxLen; omega) (s := d.nm) (by unfold maxLen; omega) (verV d)
        have HS2 := hide3 (hs2.ext (HU.out rfl))
        have HB2 : Hid (Below w.heap.size w w2) := (below_then HB1.out (boxB _ _)).grown hg2 (below_then HB1.out (boxB _ _)).size (fun j hj => by cases hj; exact Nat.le_refl _)
        simp only [verV] at hrun
        clear HT hf hs2 hg2
        go_wp2_with fail
        exact ⟨⟨k + 1, by omega, by go_num, HS2.out, HB2.out⟩, by simp [intOf]; omega⟩
    · obtain rfl : k = E.length := by omega
      have hki : ¬ ((E.length : Int) < (E.length : Int)) := by omega
      have HSF : Hid (SmAt wr w.heap.size E.length zV (firstV E)) := by
        have e := HS.out
        rw [List.take_length] at e
        exact e
      clear HS
      go_wp2_with fail
      go_ret
      exact ⟨rfl, ⟨_, HSF.out⟩, HB.out⟩
end Go.Proofs.YtjmkgojddhfhiaaGreatDoor
namespace Go.Proofs.YtjmkgojddhfhiaaGreatDoor
open Go.RowKit
set_option maxRecDepth 100000

set_option maxHeartbeats 1600000 in
theorem rSpans_walk (A B : List Sp) (hAB : A.length = B.length) (hsz : A.length ≤ 9223372036854775807) (ga oa ca gb ob cb : Nat) (w : World) (hga : ga < w.heap.size) (hgb : gb < w.heap.size) (hla : ∀ i (h : i < A.length), SpAt w ga (oa + i * 6) A[i]) (hlb : ∀ i (h : i < B.length), SpAt w gb (ob + i * 6) B[i]) :
    Calls Tryz.prog 42 #[.slice (some ⟨ga, oa, none⟩) A.length ca, .slice (some ⟨gb, ob, none⟩) B.length cb] w fun e w' => e = .returned (.bool (eqB A B)) ∧ Below w.heap.size w w' := by
  have HL : Hid (∀ w1, Below w.heap.size w w1 → ∀ i (h : i < A.length) (h2 : i < B.length), SpIn w1 ga (oa + i * 6) A[i] ∧ SpIn w1 gb (ob + i * 6) B[i]) := fun w1 hb i hi hi2 => ⟨⟨(hla i hi).below hb hga, Nat.lt_of_lt_of_le hga hb.size⟩, ⟨(hlb i hi2).below hb hgb, Nat.lt_of_lt_of_le hgb hb.size⟩⟩
  have HAB := hide3 hAB
  clear hla hlb
  rw [← hAB]
  clear hAB
  go_enter Tryz.func42, Tryz.ntmps42
  go_wp2_with fail
  go_loopw [5] (fun i wr => ∃ k : Nat, k ≤ A.length ∧ i = .int .i64 k ∧ Below w.heap.size w wr ∧ ∀ j (h : j < k) (h1 : j < A.length) (h2 : j < B.length), A[j] = B[j]) (fun i _ => A.length - (intOf i).toNat)
  case atStart => exact ⟨0, Nat.zero_le _, rfl, Below.refl _ _, fun j h => by omega⟩
  case round =>
    obtain ⟨k, hk, rfl, hb, hall⟩ := hrel
    have HALL := hide3 hall
    have HB := hide3 hb
    clear hall
    by_cases hlt : k < A.length
    · have hltB : k < B.length := HAB.out ▸ hlt
      have HO : Hid (Below w.heap.size w wr ∧ SpIn wr ga (oa + k * 6) A[k] ∧ SpIn wr gb (ob + k * 6) B[k]) := ⟨hb, HL.out wr hb k hlt hltB⟩
      have HK : Hid (KeepP fun w1 => Below w.heap.size w w1 ∧ SpIn w1 ga (oa + k * 6) A[k] ∧ SpIn w1 gb (ob + k * 6) B[k]) := (keepBelow w).and ((keepSp _ _ _).and (keepSp _ _ _))
      have HNE : Hid (eqS A[k] B[k] = false → eqB A B = false) := fun h => eqB_no fun e => by subst e; rw [(eqS_iff).2 rfl] at h; cases h
      have HST : Hid (eqS A[k] B[k] = true → ∀ j (h : j < k + 1) (h1 : j < A.length) (h2 : j < B.length), A[j] = B[j]) := fun h j hj h1 h2 => by
        rcases Nat.lt_or_ge j k with hjk | hjk
        · exact HALL.out j hjk h1 h2
        · obtain rfl : j = k := by omega
          exact eqS_iff.1 h
      generalize A[k] = s at *
      generalize B[k] = t at *
      obtain ⟨a, b, c, x, y, z⟩ := s
      obtain ⟨a', b', c', x', y', z'⟩ := t
      have he := neqSp2 a b c x y z a' b' c' x' y' z'
      have hgd := guardSp
      cases hq : eqS ⟨a, b, c, x, y, z⟩ ⟨a', b', c', x', y', z'⟩
      · have HR := hide3 (HNE.out hq)
        rw [hq] at he
        clear hb HNE HST HALL
        go_wp2_with fail
        refine wp_region_keep HK.out (by kernel_rfl) (by kernel_rfl) (by first | exact HO.out | exact HK.out.drew HO.out) ?_
        intro C hin hout
        have HIN := hide3 hin
        have HOUT := hide3 hout
        clear hin hout HO
        repeat
          (with_reducible refine wpQuiet_step (fun K hK => ?_)
           go_simp
           first
             | (refine hK _ ?_; clear hK K)
             | (apply Exists.intro; refine ⟨fun w1 hC => ?_, hK _ ?_⟩; (focus ((first | (exact rfl) | (obtain ⟨hb1, ⟨⟨p0, p1, p2, p3, p4, p5⟩, p6⟩, ⟨⟨q0, q1, q2, q3, q4, q5⟩, q6⟩⟩ := HOUT.out w1 hC; clear hC; go_simp; first | done | exact rfl)); done)); clear hK K))
        refine wpQuiet_nil ?_
        intro wn hC
        have HO := hide3 (HOUT.out _ hC)
        clear hC HIN HOUT C
        obtain ⟨hb1, ⟨⟨p0, p1, p2, p3, p4, p5⟩, p6⟩, ⟨⟨q0, q1, q2, q3, q4, q5⟩, q6⟩⟩ := HO.out
        go_wp2
        go_ret
        exact ⟨ret_bool HR.out.symm, HO.out.1⟩
      · have HR := hide3 (HST.out hq)
        rw [hq] at he
        clear hb HNE HST HALL
        go_wp2_with fail
        refine wp_region_keep HK.out (by kernel_rfl) (by kernel_rfl) (by first | exact HO.out | exact HK.out.drew HO.out) ?_
        intro C hin hout
        have HIN := hide3 hin
        have HOUT := hide3 hout
        clear hin hout HO
        repeat
          (with_reducible refine wpQuiet_step (fun K hK => ?_)
           go_simp
           first
             | (refine hK _ ?_; clear hK K)
             | (apply Exists.intro; refine ⟨fun w1 hC => ?_, hK _ ?_⟩; (focus ((first | (exact rfl) | (obtain ⟨hb1, ⟨⟨p0, p1, p2, p3, p4, p5⟩, p6⟩, ⟨⟨q0, q1, q2, q3, q4, q5⟩, q6⟩⟩ := HOUT.out w1 hC; clear hC; go_simp; first | done | exact rfl)); done)); clear hK K))
        refine wpQuiet_nil ?_
        intro wn hC
        have HO := hide3 (HOUT.out _ hC)
        clear hC HIN HOUT C
        obtain ⟨hb1, ⟨⟨p0, p1, p2, p3, p4, p5⟩, p6⟩, ⟨⟨q0, q1, q2, q3, q4, q5⟩, q6⟩⟩ := HO.out
        go_wp2
        exact ⟨⟨k + 1, by omega, by go_num, HO.out.1, HR.out⟩, by simp [intOf]; omega⟩
    · have hke : k = A.length := by omega
      subst hke
      have HR : Hid (eqB A B = true) := eqB_yes (List.ext_getElem HAB.out fun j h1 h2 => HALL.out j h1 h1 h2)
      clear hb
      go_wp2
      go_ret
      exact ⟨ret_bool HR.out.symm, HB.out⟩

theorem rSpans_nil (ad bd : Option Addr) (ca cb : Nat) (w : World) :
    Calls Tryz.prog 42 #[.slice ad 0 ca, .slice bd 0 cb] w fun e w' => e = .returned (.bool true) ∧ Below w.heap.size w w' := by
  go_enter Tryz.func42, Tryz.ntmps42
  go_wp2_with fail
  go_loop [5] (fun i => i = .int .i64 0) (fun _ => 0)
  case atStart => rfl
  case round =>
    subst hrel
    go_wp2
    go_ret
    exact ⟨rfl, Below.refl _ _⟩

theorem rSpans_len (ad bd : Option Addr) (n m ca cb : Nat) (h : n ≠ m) (w : World) :
    Calls Tryz.prog 42 #[.slice ad n ca, .slice bd m cb] w fun e w' => e = .returned (.bool false) ∧ Below w.heap.size w w' := by
  have hn : ((n : Int) = (m : Int)) = False := by simp; omega
  go_enter Tryz.func42, Tryz.ntmps42
  go_wp2
  go_ret
  exact ⟨rfl, Below.refl _ _⟩

theorem rSpans_any {A B : List Sp} {va vb : Value} {w : World} (ha : SpansAt w va A) (hb : SpansAt w vb B) (hsz : A.length ≤ 9223372036854775807) :
    Calls Tryz.prog 42 #[va, vb] w fun e w' => e = .returned (.bool (eqB A B)) ∧ Below w.heap.size w w' := by
  obtain ⟨ad, ca, rfl, hl⟩ := ha
  obtain ⟨bd, cb, rfl, hm⟩ := hb
  by_cases hn : A.length = B.length
  · rcases hl with rfl | ⟨ga, oa, rfl, hga, hla⟩
    · obtain rfl : B = [] := List.eq_nil_of_length_eq_zero (by simpa using hn.symm)
      rw [eqB_yes rfl]
      exact rSpans_nil _ _ _ _ w
    · rcases hm with rfl | ⟨gb, ob, rfl, hgb, hlb⟩
      · obtain rfl : A = [] := List.eq_nil_of_length_eq_zero (by simpa using hn)
        rw [eqB_yes rfl]
        exact rSpans_nil _ _ _ _ w
      · exact rSpans_walk A B hn hsz ga oa ca gb ob cb w hga hgb hla hlb
  · rw [eqB_no fun e => hn (by rw [e])]
    exact rSpans_len _ _ _ _ _ _ hn w

set_option maxHeartbeats 3200000 in
theorem rDeps_walk (A B : List Dp) (hAB : A.length = B.length) (hsz : A.length ≤ 9223372036854775807) (ga oa ca gb ob cb : Nat) (w : World) (hla : ∀ i (h : i < A.length), ∃ u, DpIn w ga (oa + i * 2) A[i] u) (hlb : ∀ i (h : i < B.length), ∃ u, DpIn w gb (ob + i * 2) B[i] u) :
    Calls Tryz.prog 39 #[.slice (some ⟨ga, oa, none⟩) A.length ca, .slice (some ⟨gb, ob, none⟩) B.length cb] w fun e w' => e = .returned (.bool (eqB A B)) ∧ Below w.heap.size w w' := by
  have HL : Hid (∀ w1, Below w.heap.size w w1 → ∀ i (h : i < A.length) (h2 : i < B.length), (∃ u, DpIn w1 ga (oa + i * 2) A[i] u) ∧ ∃ u, DpIn w1 gb (ob + i * 2) B[i] u) := fun w1 hb i hi hi2 => ⟨(hla i hi).imp fun u h => h.below hb, (hlb i hi2).imp fun u h => h.below hb⟩
  have HAB := hide3 hAB
  clear hla hlb
  rw [← hAB]
  clear hAB
  go_enter Tryz.func39, Tryz.ntmps39
  go_wp2_with fail
  go_loopw [5] (fun i wr => ∃ k : Nat, k ≤ A.length ∧ i = .int .i64 k ∧ Below w.heap.size w wr ∧ ∀ j (h : j < k) (h1 : j < A.length) (h2 : j < B.length), A[j] = B[j]) (fun i _ => A.length - (intOf i).toNat)
  case atStart => exact ⟨0, Nat.zero_le _, rfl, Below.refl _ _, fun j h => by omega⟩
  case round =>
    obtain ⟨k, hk, rfl, hb, hall⟩ := hrel
    have HALL := hide3 hall
    have HB := hide3 hb
    clear hall
    by_cases hlt : k < A.length
    · have hltB : k < B.length := HAB.out ▸ hlt
      obtain ⟨⟨u, hu⟩, ⟨v, hv⟩⟩ := HL.out wr hb k hlt hltB
      have HO : Hid (Below w.heap.size w wr ∧ DpIn wr ga (oa + k * 2) A[k] u ∧ DpIn wr gb (ob + k * 2) B[k] v) := ⟨hb, hu, hv⟩
      have HK : Hid (KeepP fun w1 => Below w.heap.size w w1 ∧ DpIn w1 ga (oa + k * 2) A[k] u ∧ DpIn w1 gb (ob + k * 2) B[k] v) := (keepBelow w).and ((keepDp _ _ _ _).and (keepDp _ _ _ _))
      have HC : Hid (∀ w1, (Below w.heap.size w w1 ∧ DpIn w1 ga (oa + k * 2) A[k] u ∧ DpIn w1 gb (ob + k * 2) B[k] v) → Calls Tryz.prog 42 #[u, v] w1 fun x w' => x = .returned (.bool (eqB A[k].rg B[k].rg)) ∧ Below w1.heap.size w1 w') := fun w1 h => rSpans_any h.2.1.2.2.1.1.1 h.2.2.2.2.1.1.1 h.2.1.2.2.1.2
      have HNE : Hid (A[k] ≠ B[k] → eqB A B = false) := fun h => eqB_no fun e => by subst e; exact h rfl
      have HST : Hid (A[k] = B[k] → ∀ j (h : j < k + 1) (h1 : j < A.length) (h2 : j < B.length), A[j] = B[j]) := fun h j hj h1 h2 => by
        rcases Nat.lt_or_ge j k with hjk | hjk
        · exact HALL.out j hjk h1 h2
        · obtain rfl : j = k := by omega
          exact h
      obtain ⟨au, cu, rfl⟩ := hu.2.2.1.1.1.sl
      obtain ⟨av, cv, rfl⟩ := hv.2.2.1.1.1.sl
      clear hu hv
      generalize A[k] = d at *
      generalize B[k] = e at *
      obtain ⟨n, r⟩ := d
      obtain ⟨m, q⟩ := e
      simp only at *
      by_cases hn : n = m
      · subst hn
        have hq : (n.toList == n.toList) = true := by simp
        cases hr : eqB r q
        · have HR := hide3 (HNE.out fun e => by injection e with _ e2; rw [eqB_yes e2] at hr; cases hr)
          rw [hr] at HC
          clear hb HNE HST HALL hr
          go_wp2_with fail
          refine wp_region_keep HK.out (by kernel_rfl) (by kernel_rfl) (by first | exact HO.out | exact HK.out.drew HO.out) ?_
          intro C hin hout
          have HIN := hide3 hin
          have HOUT := hide3 hout
          clear hin hout HO
          repeat
            (with_reducible refine wpQuiet_step (fun K hK => ?_)
             go_simp
             first
               | (refine hK _ ?_; clear hK K)
               | (apply Exists.intro; refine ⟨fun w1 hC => ?_, hK _ ?_⟩; (focus ((first | (go_at_call 42; with_reducible exact callC' HIN.out HOUT.out HK.out HC.out w1 hC) | (exact rfl) | (obtain ⟨hb1, ⟨p0, p1, ph, p3⟩, ⟨q0, q1, qh, q3⟩⟩ := HOUT.out w1 hC; clear hC; go_simp; first | done | exact rfl)); done)); clear hK K))
          refine wpQuiet_nil ?_
          intro wn hC
          have HO := hide3 (HOUT.out _ hC)
          clear hC HIN HOUT C
          obtain ⟨hb1, ⟨p0, p1, ph, p3⟩, ⟨q0, q1, qh, q3⟩⟩ := HO.out
          go_wp2
          go_ret
          exact ⟨ret_bool HR.out.symm, HO.out.1⟩
        · have HR := hide3 (HST.out (by rw [eqB_iff.1 hr]))
          rw [hr] at HC
          clear hb HNE HST HALL hr
          go_wp2_with fail
          refine wp_region_keep HK.out (by kernel_rfl) (by kernel_rfl) (by first | exact HO.out | exact HK.out.drew HO.out) ?_
          intro C hin hout
          have HIN := hide3 hin
          have HOUT := hide3 hout
          clear hin hout HO
          repeat
            (with_reducible refine wpQuiet_step (fun K hK => ?_)
             go_simp
             first
               | (refine hK _ ?_; clear hK K)
               | (apply Exists.intro; refine ⟨fun w1 hC => ?_, hK _ ?_⟩; (focus ((first | (go_at_call 42; with_reducible exact callC' HIN.out HOUT.out HK.out HC.out w1 hC) | (exact rfl) | (obtain ⟨hb1, ⟨p0, p1, ph, p3⟩, ⟨q0, q1, qh, q3⟩⟩ := HOUT.out w1 hC; clear hC; go_simp; first | done | exact rfl)); done)); clear hK K))
          refine wpQuiet_nil ?_
          intro wn hC
          have HO := hide3 (HOUT.out _ hC)
          clear hC HIN HOUT C
          obtain ⟨hb1, ⟨p0, p1, ph, p3⟩, ⟨q0, q1, qh, q3⟩⟩ := HO.out
          go_wp2
          exact ⟨⟨k + 1, by omega, by go_num, HO.out.1, HR.out⟩, by simp [intOf]; omega⟩
      · have HR := hide3 (HNE.out fun e => hn (by injection e))
        have hq : (n.toList == m.toList) = false := beq_eq_false_iff_ne.2 fun e => hn (bytes_same e)
        clear hb HNE HST HALL HC
        go_wp2_with fail
        refine wp_region_keep HK.out (by kernel_rfl) (by kernel_rfl) (by first | exact HO.out | exact HK.out.drew HO.out) ?_
        intro C hin hout
        have HIN := hide3 hin
        have HOUT := hide3 hout
        clear hin hout HO
        repeat
          (with_reducible refine wpQuiet_step (fun K hK => ?_)
           go_simp
           first
             | (refine hK _ ?_; clear hK K)
             | (apply Exists.intro; refine ⟨fun w1 hC => ?_, hK _ ?_⟩; (focus ((first | (exact rfl) | (obtain ⟨hb1, ⟨p0, p1, ph, p3⟩, ⟨q0, q1, qh, q3⟩⟩ := HOUT.out w1 hC; clear hC; go_simp; first | done | exact rfl)); done)); clear hK K))
        refine wpQuiet_nil ?_
        intro wn hC
        have HO := hide3 (HOUT.out _ hC)
        clear hC HIN HOUT C
        obtain ⟨hb1, ⟨p0, p1, ph, p3⟩, ⟨q0, q1, qh, q3⟩⟩ := HO.out
        go_wp2
        go_ret
        exact ⟨ret_bool HR.out.symm, HO.out.1⟩
    · have hke : k = A.length := by omega
      subst hke
      have HR : Hid (eqB A B = true) := eqB_yes (List.ext_getElem HAB.out fun j h1 h2 => HALL.out j h1 h1 h2)
      clear hb
      go_wp2
      go_ret
      exact ⟨ret_bool HR.out.symm, HB.out⟩

theorem rDeps_nil (ad bd : Option Addr) (ca cb : Nat) (w : World) :
    Calls Tryz.prog 39 #[.slice ad 0 ca, .slice bd 0 cb] w fun e w' => e = .returned (.bool true) ∧ Below w.heap.size w w' := by
  go_enter Tryz.func39, Tryz.ntmps39
  go_wp2_with fail
  go_loop [5] (fun i => i = .int .i64 0) (fun _ => 0)
  case atStart => rfl
  case round =>
    subst hrel
    go_wp2
    go_ret
    exact ⟨rfl, Below.refl _ _⟩

theorem rDeps_len (ad bd : Option Addr) (n m ca cb : Nat) (h : n ≠ m) (w : World) :
    Calls Tryz.prog 39 #[.slice ad n ca, .slice bd m cb] w fun e w' => e = .returned (.bool false) ∧ Below w.heap.size w w' := by
  have hn : ((n : Int) = (m : Int)) = False := by simp; omega
  go_enter Tryz.func39, Tryz.ntmps39
  go_wp2
  go_ret
  exact ⟨rfl, Below.refl _ _⟩

theorem rDeps_any {A B : List Dp} {va vb : Value} {w : World} (ha : DepsAt w va A) (hb : DepsAt w vb B) (hsz : A.length ≤ 9223372036854775807) :
    Calls Tryz.prog 39 #[va, vb] w fun e w' => e = .returned (.bool (eqB A B)) ∧ Below w.heap.size w w' := by
  obtain ⟨ad, ca, rfl, _, hl⟩ := ha
  obtain ⟨bd, cb, rfl, _, hm⟩ := hb
  by_cases hn : A.length = B.length
  · rcases hl with rfl | ⟨ga, oa, rfl, hga, hla⟩
    · obtain rfl : B = [] := List.eq_nil_of_length_eq_zero (by simpa using hn.symm)
      rw [eqB_yes rfl]
      exact rDeps_nil _ _ _ _ w
    · rcases hm with rfl | ⟨gb, ob, rfl, hgb, hlb⟩
      · obtain rfl : A = [] := List.eq_nil_of_length_eq_zero (by simpa using hn)
        rw [eqB_yes rfl]
        exact rDeps_nil _ _ _ _ w
      · exact rDeps_walk A B hn hsz ga oa ca gb ob cb w hla hlb
  · rw [eqB_no fun e => hn (by rw [e])]
    exact rDeps_len _ _ _ _ _ _ hn w
end Go.Proofs.YtjmkgojddhfhiaaGreatDoor
