/- Maps of files in memory; what is looked up; a file's kind; a text cloned. Conditions: sizes. -/
import Derived.Test.YtcpmfhalphoppaaDoorDx2
import Derived.Test.YtcpmfhalphoppaaDoorIm0
import Derived.Test.YtcpmfhalphoppaaDoorScA
import Derived.Deep.RegionHeld3
namespace Go.Proofs.YtcpmfhalphoppaaDoor
open Go.RowKit Go.Maps Go.WideMaps Go.WideElems Dk
set_option maxRecDepth 100000

def fi (x : Fl) : Fi := ⟨x.1, x.2.1, x.2.2⟩
/-- A map of files lies there. -/
def MapAt (w : World) (mb n : Nat) (D : DataW Value) (V : List Fl) : Prop := w.ownsMap Tryd.prog 9 hldR mb n D ∧ MapF D (V.map fi)
theorem MapAt.below {w w' : World} {mb n : Nat} {D : DataW Value} {V : List Fl} (h : MapAt w mb n D V) (hb : Below w.heap.size w w') : MapAt w' mb n D V := by
  refine ⟨?_, h.2⟩
  have hl := h.1.lt
  obtain ⟨es, clock, hbk, r⟩ := h.1
  exact ⟨es, clock, by rw [hb.block mb hl]; exact hbk, r⟩
theorem zeroFi (w : World) : (zeroValue 31).run Tryd.prog w = .ok (.agg #[.string ⟨#[]⟩, .bool false, .string ⟨#[]⟩]) w := by kernel_rfl
theorem hldR_inv {v u : Value} {ps : List MemPlace} (h : hldR v = some (.held u, ps)) : v = u := by
  unfold hldR at h
  injection h with h
  injection h with h _
  injection h
theorem look_yes {w : World} {mb n : Nat} {D : DataW Value} {V : List Fl} (h : MapAt w mb n D V) {y : Fl} (hy : y ∈ V) (hs : y.1.size ≤ maxLen) :
    (Instr.lookup 35 (.map (some mb)) (.string y.1) true).run Tryd.prog w = .ok (.tuple #[.agg #[.string y.1, .bool y.2.1, .string y.2.2], .bool true]) w ∧
    (Instr.lookup 35 (.map (some mb)) (.string y.1) false).run Tryd.prog w = .ok (.agg #[.string y.1, .bool y.2.1, .string y.2.2]) w := by
  have hm := h.2.has (fi y) (List.mem_map.2 ⟨y, hy, rfl⟩)
  constructor
  · obtain ⟨v, ps, h1, h2⟩ := h.1.look_ok keyedF Tryd.underlying35 (zeroFi w) (zd := .held (.agg #[.string ⟨#[]⟩, .bool false, .string ⟨#[]⟩])) (zp := []) rfl (keyOfF hs)
    rw [show keyF y.1 = keyF (fi y).pa from rfl, hm.2] at h2
    rw [show keyF y.1 = keyF (fi y).pa from rfl, hm.1] at h1
    rw [h1, hldR_inv h2]; rfl
  · obtain ⟨v, ps, h1, h2⟩ := h.1.lookup keyedF Tryd.underlying35 (zeroFi w) (zd := .held (.agg #[.string ⟨#[]⟩, .bool false, .string ⟨#[]⟩])) (zp := []) rfl (keyOfF hs)
    rw [show keyF y.1 = keyF (fi y).pa from rfl, hm.2] at h2
    rw [h1, hldR_inv h2]; rfl
theorem look_no {w : World} {mb n : Nat} {D : DataW Value} {V : List Fl} (h : MapAt w mb n D V) {s : ByteArray} (hn : ∀ y ∈ V, y.1 ≠ s) (hs : s.size ≤ maxLen) :
    (Instr.lookup 35 (.map (some mb)) (.string s) true).run Tryd.prog w = .ok (.tuple #[.agg #[.string ⟨#[]⟩, .bool false, .string ⟨#[]⟩], .bool false]) w ∧
    (Instr.lookup 35 (.map (some mb)) (.string s) false).run Tryd.prog w = .ok (.agg #[.string ⟨#[]⟩, .bool false, .string ⟨#[]⟩]) w := by
  have hm : Maps.has D (keyF s) = false := by
    rw [Bool.eq_false_iff]
    intro q
    obtain ⟨x, hx, e⟩ := h.2.keys _ q
    obtain ⟨y, hy, rfl⟩ := List.mem_map.1 hx
    exact hn y hy (keyF_inj e).symm
  constructor
  · obtain ⟨v, ps, h1, h2⟩ := h.1.look_ok keyedF Tryd.underlying35 (zeroFi w) (zd := .held (.agg #[.string ⟨#[]⟩, .bool false, .string ⟨#[]⟩])) (zp := []) rfl (keyOfF hs)
    rw [atKey_of_not_has hm] at h2
    rw [hm] at h1
    rw [h1, hldR_inv h2]
  · obtain ⟨v, ps, h1, h2⟩ := h.1.lookup keyedF Tryd.underlying35 (zeroFi w) (zd := .held (.agg #[.string ⟨#[]⟩, .bool false, .string ⟨#[]⟩])) (zp := []) rfl (keyOfF hs)
    rw [atKey_of_not_has hm] at h2
    rw [h1, hldR_inv h2]

theorem strClone_any (s : ByteArray) (hs : s.size ≤ 281474976710656) (w : World) : Calls Tryd.prog 25 #[.string s] w fun e w' => e = .returned (.string s) ∧ Below w.heap.size w w' := by
  have HC := hide3 (Tryd.stringslite_Clone s w hs)
  go_enter Tryd.func25, Tryd.ntmps25
  go_wp2_with (go_at_call 39; refine HC.out.mono ?_; rintro e w1 ⟨rfl, hb⟩; have HB := hide3 hb; clear hb)
  go_ret
  exact ⟨rfl, HB.out⟩

set_option maxHeartbeats 800000 in
theorem kindOf_any (p : ByteArray) (c : Bool) (t : ByteArray) (a b : Int) (w : World) :
    Calls Tryd.prog 24 #[.agg #[.string p, .bool c, .string t], .int .i64 a, .int .i64 b] w fun e w' => e = .returned (.int .i64 (if c = true then b else a)) ∧ Below w.heap.size w w' := by
  have HB : Hid (Below w.heap.size w (w.alloc (.cells #[.string p, .bool c, .string t] 31))) := (Below.refl _ _).alloc (Nat.le_refl _) _
  cases c
  · go_enter Tryd.func24, Tryd.ntmps24
    go_wp2
    go_ret
    exact ⟨rfl, HB.out⟩
  · go_enter Tryd.func24, Tryd.ntmps24
    go_wp2
    go_ret
    exact ⟨rfl, HB.out⟩

/-- Deeds of one's own. -/
def encE (x : De) : List Value := [.int .i64 x.kd, .string x.pa, .string x.da]
def OwnDe (w : World) (B : Nat) (v : Value) (ds : List De) : Prop := w.ownsRow B 33 3 v ds.length (ds.flatMap encE)
theorem encE_len (ds : List De) : (ds.flatMap encE).length = ds.length * 3 := by
  induction ds with
  | nil => rfl
  | cons x ds ih => rw [List.flatMap_cons, List.length_append, ih, List.length_cons]; simp [encE]; omega
theorem infoDe : (Tryd.prog.info? 33).map (fun i => (i.zero, i.size, i.bytes)) = some (some (.agg #[.int .i64 0, .string ⟨#[]⟩, .string ⟨#[]⟩]), 3, 40) := by kernel_rfl
theorem OwnDe.nil (w : World) (B : Nat) : OwnDe w B (.slice none 0 0) [] := ⟨rfl, Or.inl ⟨rfl, rfl⟩⟩
theorem lG_snoc (M l : List Fl) (x : Fl) : lG M (l ++ [x]) = lG M l ++ (if wG M x = true then [dG x] else []) := by
  unfold lG
  rw [List.filter_append, List.map_append]
  congr 1
  cases h : wG M x <;> simp [h]
theorem lC_snoc (M l : List Fl) (x : Fl) : lC M (l ++ [x]) = lC M l ++ (if wC M x = true then [dC x] else []) := by
  unfold lC
  rw [List.filter_append, List.map_append]
  congr 1
  cases h : wC M x <;> simp [h]
theorem fi_inj {x y : Fl} (h : fi x = fi y) : x = y := by
  obtain ⟨a, b, c⟩ := x
  obtain ⟨d, e, f⟩ := y
  unfold fi at h
  simp only [Fi.mk.injEq] at h
  rw [h.1, h.2.1, h.2.2]
/-- A list of files in the map's form comes from a list of files. -/
theorem of_fi {V U : List Fi} {L : List Fl} (h : (V ++ U).Perm (L.map fi)) : ∃ X Y : List Fl, V = X.map fi ∧ U = Y.map fi := by
  have hex : ∀ (Z : List Fi), (∀ x ∈ Z, ∃ y, x = fi y) → ∃ X : List Fl, Z = X.map fi := by
    intro Z
    induction Z with
    | nil => intro _; exact ⟨[], rfl⟩
    | cons x Z ih =>
      intro hz
      obtain ⟨y, rfl⟩ := hz x List.mem_cons_self
      obtain ⟨X, rfl⟩ := ih fun q hq => hz q (List.mem_cons_of_mem _ hq)
      exact ⟨y :: X, rfl⟩
  have hm : ∀ x ∈ V ++ U, ∃ y, x = fi y := fun x hx => by
    obtain ⟨y, _, e⟩ := List.mem_map.1 (h.mem_iff.1 hx)
    exact ⟨y, e.symm⟩
  obtain ⟨X, hX⟩ := hex V fun x hx => hm x (List.mem_append_left _ hx)
  obtain ⟨Y, hY⟩ := hex U fun x hx => hm x (List.mem_append_right _ hx)
  exact ⟨X, Y, hX, hY⟩
theorem perm_fi {X L : List Fl} (h : (X.map fi).Perm (L.map fi)) : X.Perm L := by
  have hid : ∀ l : List Fl, (l.map fi).map (fun x : Fi => ((x.pa, x.dr, x.da) : Fl)) = l := fun l => by
    rw [List.map_map]
    exact List.map_id _
  have := h.map (fun x : Fi => ((x.pa, x.dr, x.da) : Fl))
  rwa [hid, hid] at this
end Go.Proofs.YtcpmfhalphoppaaDoor
