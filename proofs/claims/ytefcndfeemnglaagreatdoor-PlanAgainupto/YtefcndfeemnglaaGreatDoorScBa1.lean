/- What the walks of layer 4 share: scopes with several labels, words and lines in memory. -/
import Derived.Test.YtefcndfeemnglaaGreatDoorRows
import Derived.Test.YtefcndfeemnglaaGreatDoorScPl1
import Derived.WalkKit
import Derived.WalkSpells
import Derived.WalkLawsBesides
import Derived.Deep.QuietTactic
import Derived.BigQuiet
import Derived.Maps.AppendAt
import Derived.Deep.AppendLies
import Derived.Laws.OwnMore
import Derived.Laws.AppendOwn
import Derived.OwnWalk
import Derived.WalkMore
import Derived.Scope
import Derived.Deep.LoopGhost
namespace Go.Proofs.YtefcndfeemnglaaGreatDoor.Sc
open Go.RowKit
set_option maxRecDepth 100000

theorem hide3 {p : Prop} (h : p) : Hid p := h
theorem ret_bool {a b : Bool} (h : a = b) : Ending.returned (.bool a) = .returned (.bool b) := by rw [h]
theorem ret_int {a b : Int} (h : a = b) : Ending.returned (.int .i64 a) = .returned (.int .i64 b) := by rw [h]
theorem boxB (w : World) (o : Obj) : Below w.heap.size w (w.alloc o) := (Below.refl _ _).alloc (Nat.le_refl _) _
theorem below_then {w w1 w' : World} (h : Below w.heap.size w w1) (hb : Below w1.heap.size w1 w') : Below w.heap.size w w' := h.trans (hb.mono h.size)
theorem bytes_same {s t : ByteArray} (h : s.toList = t.toList) : s = t := by
  rw [ByteArray.toList_eq, ByteArray.toList_eq] at h
  cases s; cases t
  simp only [ByteArray.mk.injEq]
  exact Array.toList_inj.1 h
theorem list_size (s : ByteArray) : s.data.toList.length = s.size := rfl
theorem cell_in {W : World} {a : Addr} {v : Value} (h : W.cell? a = some v) : a.block < W.heap.size := by
  rcases Nat.lt_or_ge a.block W.heap.size with h' | h'
  · exact h'
  · simp [World.cell?, Array.getElem?_eq_none h'] at h
theorem info_parts {e : TypeId} {z : Value} {n b : Nat} (h : (Tryz.prog.info? e).map (fun i => (i.zero, i.size, i.bytes)) = some (some z, n, b)) : ∃ i, Tryz.prog.info? e = some i ∧ i.zero = some z ∧ i.size = n ∧ i.bytes = b := by
  cases hi : Tryz.prog.info? e with
  | none => rw [hi] at h; cases h
  | some i =>
    rw [hi] at h
    simp only [Option.map_some, Option.some.injEq, Prod.mk.injEq] at h
    exact ⟨i, rfl, h.1, h.2.1, h.2.2⟩
theorem infoStr : (Tryz.prog.info? 9).map (fun i => (i.zero, i.size, i.bytes)) = some (some (.string ByteArray.empty), 1, 16) := by kernel_rfl
theorem infoStrs : (Tryz.prog.info? 58).map (fun i => (i.zero, i.size, i.bytes)) = some (some (.slice none 0 0), 1, 24) := by kernel_rfl

/-- As Q; by a goto to a label: J. -/
def jumpM (J : Nat → Act → World → Prop) (Q : Exit → Act → World → Prop) : Exit → Act → World → Prop
  | .goto l, a, w => J l a w
  | e, a, w => Q e a w
section
variable {J : Nat → Act → World → Prop} {Q : Exit → Act → World → Prop} {a : Act} {w : World}
theorem jumpM_normal : jumpM J Q .normal a w = Q .normal a w := rfl
theorem jumpM_exit (id : Nat) : jumpM J Q (.exit id) a w = Q (.exit id) a w := rfl
theorem jumpM_ret : jumpM J Q .ret a w = Q .ret a w := rfl
theorem jumpM_goto (l : Nat) : jumpM J Q (.goto l) a w = J l a w := rfl
end
/-- A scope in which the run jumps among labels: what holds at each jump, and a measure that every pass lowers. -/
theorem wp_scope_many {P : Program} {a : Act} {w : World} {Q : Exit → Act → World → Prop} {c : Code} (J : Nat → Act → World → Prop) (μ : Nat → Act → World → Nat)
    (first : c.wp P (jumpM J Q) a w)
    (pass : ∀ l a w, J l a w → ∃ rest, findLabel c l = some rest ∧ rest.wp P (jumpM (fun l' a' w' => J l' a' w' ∧ μ l' a' w' < μ l a w) Q) a w) : (Code.scope c).wp P Q a w := by
  intro b k cs
  have key : ∀ n l a w, μ l a w = n → J l a w → ∃ rest, findLabel c l = some rest ∧ ∃ e a' w', Q e a' w' ∧ Arrives P (lone (b.at a (.code rest :: .inScope c :: k)) cs w) b k cs e a' w' := by
    intro n
    induction n using Nat.strongRecOn with
    | _ n ih =>
      intro l a w hn hJ
      obtain ⟨rest, hf, hp⟩ := pass l a w hJ
      refine ⟨rest, hf, ?_⟩
      obtain ⟨e, a₁, w₁, hq, harr⟩ := hp b (.inScope c :: k) cs
      cases e with
      | normal => exact ⟨.normal, a₁, w₁, hq, Steps.trans harr (.one step_inScope)⟩
      | exit id => exact ⟨.exit id, a₁, w₁, hq, fun k' hk => harr k' (by simp [exitTo, hk])⟩
      | goto l' =>
        obtain ⟨hJ', hlt⟩ := hq
        obtain ⟨rest', hf', e₂, a₂, w₂, hq₂, harr₂⟩ := ih _ (by omega) l' a₁ w₁ rfl hJ'
        have hg : gotoIn l' (.inScope c :: k) = some (.code rest' :: .inScope c :: k) := by simp [gotoIn, hf']
        exact ⟨e₂, a₂, w₂, hq₂, .of_steps (harr _ hg) harr₂⟩
      | ret => exact ⟨_, a₁, w₁, hq, harr⟩
      | panic ch => exact ⟨_, a₁, w₁, hq, harr⟩
      | outgrown => exact ⟨_, a₁, w₁, hq, harr⟩
  obtain ⟨e, a₁, w₁, hq, harr⟩ := first b (.inScope c :: k) cs
  cases e with
  | normal => exact ⟨.normal, a₁, w₁, hq, .head step_scope (Steps.trans harr (.one step_inScope))⟩
  | exit id => exact ⟨.exit id, a₁, w₁, hq, fun k' hk => .head step_scope (harr k' (by simp [exitTo, hk]))⟩
  | goto l' =>
    obtain ⟨rest', hf', e₂, a₂, w₂, hq₂, harr₂⟩ := key _ l' a₁ w₁ rfl hq
    have hg : gotoIn l' (.inScope c :: k) = some (.code rest' :: .inScope c :: k) := by simp [gotoIn, hf']
    exact ⟨e₂, a₂, w₂, hq₂, .of_steps (.head step_scope (harr _ hg)) harr₂⟩
  | ret => exact ⟨_, a₁, w₁, hq, .of_steps (.one step_scope) harr⟩
  | panic ch => exact ⟨_, a₁, w₁, hq, .of_steps (.one step_scope) harr⟩
  | outgrown => exact ⟨_, a₁, w₁, hq, .of_steps (.one step_scope) harr⟩

/-- Bytes as a text. -/
def ba (l : Bs) : ByteArray := ⟨l.toArray⟩
theorem ba_list (l : Bs) : (ba l).data.toList = l := by simp [ba]
theorem ba_of (s : ByteArray) : ba s.data.toList = s := by cases s; simp [ba]
theorem ba_inj {a b : Bs} (h : ba a = ba b) : a = b := by rw [← ba_list a, h, ba_list]
theorem ba_size (l : Bs) : (ba l).size = l.length := by show l.toArray.size = _; simp
theorem ba_extract (s : ByteArray) (f k : Nat) : s.extract f k = ba ((s.data.toList.take k).drop f) := by
  have : (s.extract f k).data.toList = (s.data.toList.take k).drop f := by
    rw [ByteArray.data_extract, Array.toList_extract, List.extract_eq_take_drop, List.drop_take]
  rw [← this, ba_of]

/-- Words as cells. -/
def strs (ws : List Bs) : List Value := ws.map fun w => .string (ba w)
theorem strs_length (ws : List Bs) : (strs ws).length = ws.length := by simp [strs]
theorem strs_snoc (ws : List Bs) (x : Bs) : strs (ws ++ [x]) = strs ws ++ [.string (ba x)] := by simp [strs]

/-- Words that lie in memory, wherever. -/
def WordsAt (w : World) (v : Value) (ws : List Bs) : Prop := ∃ ad cap, v = .slice ad ws.length cap ∧ ws.length ≤ cap ∧ (ws = [] ∨ ∃ g o, ad = some ⟨g, o, none⟩ ∧ g < w.heap.size ∧ ∀ i (h : i < ws.length), w.cell? ⟨g, o + i, none⟩ = some (.string (ba ws[i])))
/-- Lines that lie in memory. -/
def LinesAt (w : World) (v : Value) (L : List (List Bs)) : Prop := ∃ ad cap, v = .slice ad L.length cap ∧ L.length ≤ cap ∧ (L = [] ∨ ∃ g o, ad = some ⟨g, o, none⟩ ∧ g < w.heap.size ∧ ∀ i (h : i < L.length), ∃ u, w.cell? ⟨g, o + i, none⟩ = some u ∧ WordsAt w u L[i])

theorem WordsAt.below {w w' : World} {v : Value} {ws : List Bs} (h : WordsAt w v ws) (hb : Below w.heap.size w w') : WordsAt w' v ws := by
  obtain ⟨ad, cap, hv, hc, hl⟩ := h
  refine ⟨ad, cap, hv, hc, hl.imp id ?_⟩
  rintro ⟨g, o, ha, hg, hs⟩
  exact ⟨g, o, ha, Nat.lt_of_lt_of_le hg hb.size, fun i hi => (hb.cell (p := ⟨g, o + i, none⟩) hg).trans (hs i hi)⟩
theorem LinesAt.below {w w' : World} {v : Value} {L : List (List Bs)} (h : LinesAt w v L) (hb : Below w.heap.size w w') : LinesAt w' v L := by
  obtain ⟨ad, cap, hv, hc, hl⟩ := h
  refine ⟨ad, cap, hv, hc, hl.imp id ?_⟩
  rintro ⟨g, o, ha, hg, hs⟩
  refine ⟨g, o, ha, Nat.lt_of_lt_of_le hg hb.size, fun i hi => ?_⟩
  obtain ⟨u, h1, h2⟩ := hs i hi
  exact ⟨u, (hb.cell (p := ⟨g, o + i, none⟩) hg).trans h1, h2.below hb⟩

/-- Words of one's own. -/
def OwnW (w : World) (B : Nat) (v : Value) (ws : List Bs) : Prop := w.ownsRow B 9 1 v ws.length (strs ws)
theorem OwnW.nil (w : World) (B : Nat) : OwnW w B (.slice none 0 0) [] := ⟨rfl, Or.inl ⟨rfl, rfl⟩⟩
theorem OwnW.block {w : World} {B : Nat} {v : Value} {ws : List Bs} (h : OwnW w B v ws) (hne : ws ≠ []) : ∃ g, v.ownBlock = some g := by
  rcases h.2 with ⟨_, h0⟩ | ⟨g, cap, cur, rfl, _⟩
  · exact absurd (List.eq_nil_of_length_eq_zero h0) hne
  · exact ⟨g, rfl⟩
theorem OwnW.at {w : World} {B : Nat} {v : Value} {ws : List Bs} (h : OwnW w B v ws) : WordsAt w v ws := by
  have h0 := h
  rcases h.2 with ⟨rfl, hn⟩ | ⟨g, cap, cur, rfl, hB, hg, hc, _⟩
  · exact ⟨none, 0, by rw [hn], by omega, Or.inl (List.eq_nil_of_length_eq_zero hn)⟩
  · refine ⟨_, cap, rfl, hc, Or.inr ⟨g, 0, rfl, (Array.getElem?_eq_some_iff.1 hg).1, fun i hi => ?_⟩⟩
    have := World.ownsRow.cellAt h0 i (by omega)
    rw [Nat.zero_add, this]
    simp [strs, hi]

/-- Lines of one's own: no two of their rows are one. -/
def LL (w : World) (B : Nat) (vl : Value) (ps : List (Value × List Bs)) : Prop :=
  w.ownsRow B 58 1 vl ps.length (ps.map (·.1)) ∧ (∀ p ∈ ps, OwnW w B p.1 p.2 ∧ p.2 ≠ []) ∧ (ps.map (·.1.ownBlock)).Nodup ∧ (∀ p ∈ ps, vl.ownBlock ≠ p.1.ownBlock) ∧ (ps = [] → vl = .slice none 0 0)
theorem LL.nil (w : World) (B : Nat) : LL w B (.slice none 0 0) [] := ⟨⟨rfl, Or.inl ⟨rfl, rfl⟩⟩, (fun p hp => by cases hp), List.nodup_nil, (fun p hp => by cases hp), fun _ => rfl⟩
theorem LL.len {w : World} {B : Nat} {vl : Value} {ps : List (Value × List Bs)} (h : LL w B vl ps) : ∃ ad cap, vl = .slice ad ps.length cap := by
  rcases h.1.2 with ⟨rfl, hn⟩ | ⟨g, cap, cur, rfl, _⟩
  · exact ⟨none, 0, by rw [hn]⟩
  · exact ⟨_, cap, rfl⟩
theorem LL.kept {w w' : World} {B : Nat} {vl : Value} {ps : List (Value × List Bs)} {row : Option Nat} (h : LL w B vl ps) (hg : w.grownBy w' row) (h1 : vl.ownBlock = none ∨ vl.ownBlock ≠ row) (h2 : ∀ p ∈ ps, p.1.ownBlock ≠ row) : LL w' B vl ps :=
  ⟨h.1.kept hg h1, fun p hp => ⟨(h.2.1 p hp).1.kept hg (Or.inr (h2 p hp)), (h.2.1 p hp).2⟩, h.2.2.1, h.2.2.2⟩
theorem LL.at {w : World} {B : Nat} {vl : Value} {ps : List (Value × List Bs)} (h : LL w B vl ps) : LinesAt w vl (ps.map (·.2)) := by
  have h0 := h.1
  rcases h.1.2 with ⟨rfl, hn⟩ | ⟨g, cap, cur, rfl, hB, hg, hc, _⟩
  · have : ps = [] := List.eq_nil_of_length_eq_zero hn
    subst this
    exact ⟨none, 0, rfl, Nat.le_refl _, Or.inl rfl⟩
  · refine ⟨_, cap, by rw [List.length_map], by rw [List.length_map]; exact hc, Or.inr ⟨g, 0, rfl, (Array.getElem?_eq_some_iff.1 hg).1, fun i hi => ?_⟩⟩
    have hi' : i < ps.length := by simpa using hi
    have := World.ownsRow.cellAt h0 i (by omega)
    refine ⟨ps[i].1, by rw [Nat.zero_add, this]; simp [hi'], ?_⟩
    rw [List.getElem_map]
    exact (h.2.1 _ (List.getElem_mem hi')).1.at

/-- What the scanner has made: lines, and a line under way. -/
def St (w0 : World) (vl vw : Value) (ps : List (Value × List Bs)) (ws : List Bs) (w : World) : Prop :=
  LL w w0.heap.size vl ps ∧ OwnW w w0.heap.size vw ws ∧ (∀ p ∈ ps, vw.ownBlock ≠ p.1.ownBlock) ∧ (vw.ownBlock = none ∨ vw.ownBlock ≠ vl.ownBlock) ∧ Below w0.heap.size w0 w
theorem St.start (w : World) : St w (.slice none 0 0) (.slice none 0 0) [] [] w := ⟨LL.nil _ _, OwnW.nil _ _, (fun p hp => by cases hp), Or.inl rfl, Below.refl _ _⟩
theorem LL.below {w w' : World} {B : Nat} {vl : Value} {ps : List (Value × List Bs)} (h : LL w B vl ps) (hb : Below w.heap.size w w') : LL w' B vl ps := by
  have own : ∀ {e : TypeId} {v : Value} {n : Nat} {xs : List Value}, w.ownsRow B e 1 v n xs → w'.ownsRow B e 1 v n xs := by
    intro e v n xs ho
    refine ⟨ho.1, ?_⟩
    rcases ho.2 with hn | ⟨g, cap, cur, rfl, hB, hgg, r⟩
    · exact Or.inl hn
    · exact Or.inr ⟨g, cap, cur, rfl, hB, (hb.block g (Array.getElem?_eq_some_iff.1 hgg).1).trans hgg, r⟩
  exact ⟨own h.1, fun p hp => ⟨own (h.2.1 p hp).1, (h.2.1 p hp).2⟩, h.2.2.1, h.2.2.2⟩
theorem OwnW.below {w w' : World} {B : Nat} {v : Value} {ws : List Bs} (h : OwnW w B v ws) (hb : Below w.heap.size w w') : OwnW w' B v ws := by
  refine ⟨h.1, ?_⟩
  rcases h.2 with hn | ⟨g, cap, cur, rfl, hB, hgg, r⟩
  · exact Or.inl hn
  · exact Or.inr ⟨g, cap, cur, rfl, hB, (hb.block g (Array.getElem?_eq_some_iff.1 hgg).1).trans hgg, r⟩
theorem St.below {w0 : World} {vl vw : Value} {ps : List (Value × List Bs)} {ws : List Bs} {w w' : World} (h : St w0 vl vw ps ws w) (hb : Below w.heap.size w w') : St w0 vl vw ps ws w' :=
  ⟨h.1.below hb, h.2.1.below hb, h.2.2.1, h.2.2.2.1, below_then h.2.2.2.2 hb⟩

theorem St.word {w0 : World} {vl vw : Value} {ps : List (Value × List Bs)} {ws : List Bs} {w w' : World} {v' : Value} (x : Bs) (h : St w0 vl vw ps ws w) (ho : w'.ownsRow w0.heap.size 9 1 v' (ws.length + 1) (strs ws ++ [.string (ba x)])) (hg : w.grownBy w' vw.ownBlock) (hat : v'.ownBlock = vw.ownBlock ∨ v'.ownBlock = some w.heap.size) : St w0 vl v' ps (ws ++ [x]) w' := by
  obtain ⟨h1, h2, h3, h4, h5⟩ := h
  have hs := h5.size
  refine ⟨h1.kept hg ?_ fun p hp => (h3 p hp).symm, ?_, ?_, ?_, ?_⟩
  · rcases h4 with h4 | h4
    · rw [h4]
      cases hv : vl.ownBlock with
      | none => exact Or.inl rfl
      | some _ => exact Or.inr (by simp)
    · exact Or.inr h4.symm
  · unfold OwnW; rw [strs_snoc, List.length_append]; exact ho
  · intro p hp
    rcases hat with e | e
    · rw [e]; exact h3 p hp
    · rw [e]
      intro e2
      have := (World.ownsRow.lt (h1.2.1 p hp).1 _ e2.symm).2
      omega
  · rcases hat with e | e
    · rw [e]; exact h4
    · refine Or.inr ?_
      rw [e]
      intro e2
      have := (World.ownsRow.lt h1.1 _ e2.symm).2
      omega
  · exact h5.grown hg hs fun k hk => (World.ownsRow.lt h2 k hk).1

theorem St.line {w0 : World} {vl vw : Value} {ps : List (Value × List Bs)} {ws : List Bs} {w w' : World} {v' : Value} (h : St w0 vl vw ps ws w) (hne : ws ≠ []) (ho : w'.ownsRow w0.heap.size 58 1 v' (ps.length + 1) (ps.map (·.1) ++ [vw])) (hg : w.grownBy w' vl.ownBlock) (hat : v'.ownBlock = vl.ownBlock ∨ v'.ownBlock = some w.heap.size) : St w0 v' (.slice none 0 0) (ps ++ [(vw, ws)]) [] w' := by
  obtain ⟨h1, h2, h3, h4, h5⟩ := h
  have hs := h5.size
  obtain ⟨g, hgb⟩ := h2.block hne
  have hvw : vw.ownBlock ≠ vl.ownBlock := by
    rcases h4 with h4 | h4
    · rw [hgb] at h4; cases h4
    · exact h4
  have hlt := (World.ownsRow.lt h2 g hgb).2
  refine ⟨⟨?_, ?_, ?_, ?_, fun e => absurd e (by simp)⟩, OwnW.nil _ _, ?_, Or.inl rfl, ?_⟩
  · rw [List.length_append, List.map_append]; exact ho
  · intro p hp
    rcases List.mem_append.1 hp with hp | hp
    · exact ⟨(h1.2.1 p hp).1.kept hg (Or.inr (h1.2.2.2.1 p hp).symm), (h1.2.1 p hp).2⟩
    · obtain rfl : p = (vw, ws) := by simpa using hp
      exact ⟨h2.kept hg (Or.inr hvw), hne⟩
  · rw [List.map_append, List.nodup_append]
    refine ⟨h1.2.2.1, by simp, ?_⟩
    intro x hx y hy
    obtain ⟨p, hp, rfl⟩ := List.mem_map.1 hx
    simp only [List.map_cons, List.map_nil, List.mem_singleton] at hy
    rw [hy]
    exact (h3 p hp).symm
  · intro p hp
    have hold : ∀ k, p.1.ownBlock = some k → k < w.heap.size := by
      intro k hk
      rcases List.mem_append.1 hp with hp | hp
      · exact (World.ownsRow.lt (h1.2.1 p hp).1 k hk).2
      · obtain rfl : p = (vw, ws) := by simpa using hp
        exact (World.ownsRow.lt h2 k hk).2
    rcases hat with e | e
    · rw [e]
      rcases List.mem_append.1 hp with hp | hp
      · exact h1.2.2.2.1 p hp
      · obtain rfl : p = (vw, ws) := by simpa using hp
        exact hvw.symm
    · rw [e]
      intro e2
      have := hold _ e2.symm
      omega
  · intro p hp
    rcases List.mem_append.1 hp with hp | hp
    · obtain ⟨k, hk⟩ := (h1.2.1 p hp).1.block (h1.2.1 p hp).2
      rw [hk]; simp [Value.ownBlock]
    · obtain rfl : p = (vw, ws) := by simpa using hp
      show _ ≠ vw.ownBlock
      rw [hgb]; simp [Value.ownBlock]
  · exact h5.grown hg hs fun k hk => (World.ownsRow.lt h1.1 k hk).1
/-- What stays behind a call that writes new blocks alone. -/
def KeepP (K : World → Prop) : Prop := ∀ w w', K w → Below w.heap.size w w' → K w'
theorem KeepP.and {K M : World → Prop} (hk : KeepP K) (hm : KeepP M) : KeepP fun w => K w ∧ M w := fun _ _ h hb => ⟨hk _ _ h.1 hb, hm _ _ h.2 hb⟩
theorem KeepP.drew {K : World → Prop} (hk : KeepP K) {w : World} (h : K w) : K w.drew := hk _ _ h (Below.refl _ _).drew
theorem keepBelow (w : World) : KeepP fun w1 => Below w.heap.size w w1 := fun _ _ h hb => below_then h hb
def CellK (w : World) (g i : Nat) (v : Value) : Prop := w.cell? ⟨g, i, none⟩ = some v ∧ g < w.heap.size
theorem keepCell (g i : Nat) (v : Value) : KeepP fun w1 => CellK w1 g i v := fun _ _ h hb => ⟨(hb.cell (p := ⟨g, i, none⟩) h.2).trans h.1, Nat.lt_of_lt_of_le h.2 hb.size⟩
theorem keepWords (v : Value) (ws : List Bs) : KeepP fun w1 => WordsAt w1 v ws := fun _ _ h hb => h.below hb
theorem keepLines (v : Value) (L : List (List Bs)) : KeepP fun w1 => LinesAt w1 v L := fun _ _ h hb => h.below hb
theorem liftK {K : World → Prop} (hk : KeepP K) {P : Program} {f : Nat} {args : Array Value} {R : Ending} (h : ∀ w1, Calls P f args w1 fun e w' => e = R ∧ Below w1.heap.size w1 w') (w1 : World) (ok : K w1) :
    Calls P f args w1 fun e w' => e = R ∧ K w' := by
  refine (h w1).mono ?_
  rintro e w' ⟨rfl, hb⟩
  exact ⟨rfl, hk _ _ ok hb⟩
theorem liftK' {K : World → Prop} (hk : KeepP K) {P : Program} {f : Nat} {args : Array Value} {R : Ending} (h : ∀ w1, K w1 → Calls P f args w1 fun e w' => e = R ∧ Below w1.heap.size w1 w') (w1 : World) (ok : K w1) :
    Calls P f args w1 fun e w' => e = R ∧ K w' := by
  refine (h w1 ok).mono ?_
  rintro e w' ⟨rfl, hb⟩
  exact ⟨rfl, hk _ _ ok hb⟩
/-- A region that draws its order, whose operations read, and whose calls keep K: one walk in the order of the text serves. -/
theorem wp_region_keep {K : World → Prop} (hk : KeepP K) {P : Program} {id : Nat} {Q : Exit → Act → World → Prop} {a : Act} {w : World} {l : List Oper} (hm : P.follows .mixedOrders = true) (hB : Region.lexB .any l.toArray = true) (hC : K w)
    (h : ∀ C : World → Prop, (∀ w, K w → C w) → (∀ w, C w → K w) → wpQuiet P l.toArray C (fun a' => ∀ w', C w' → Q .normal a' w') l a) : (Code.region id l.toArray true).wp P Q a w :=
  wp_region_quiet (C := K) hm hB (hk.drew hC) (by simpa using h K (fun _ h => h) (fun _ h => h))
theorem callC {C K : World → Prop} (hin : ∀ w, K w → C w) (hout : ∀ w, C w → K w) (hk : KeepP K) {P : Program} {f : Nat} {args : Array Value} {v : Value} (h : ∀ w1, Calls P f args w1 fun e w' => e = .returned v ∧ Below w1.heap.size w1 w') (w1 : World) (hC : C w1) :
    Calls P f args w1 fun e w' => e = .returned v ∧ C w' := by
  refine (h w1).mono ?_
  rintro e w' ⟨rfl, hb⟩
  exact ⟨rfl, hin _ (hk _ _ (hout _ hC) hb)⟩
theorem callC' {C K : World → Prop} (hin : ∀ w, K w → C w) (hout : ∀ w, C w → K w) (hk : KeepP K) {P : Program} {f : Nat} {args : Array Value} {v : Value} (h : ∀ w1, K w1 → Calls P f args w1 fun e w' => e = .returned v ∧ Below w1.heap.size w1 w') (w1 : World) (hC : C w1) :
    Calls P f args w1 fun e w' => e = .returned v ∧ C w' := by
  refine (h w1 (hout _ hC)).mono ?_
  rintro e w' ⟨rfl, hb⟩
  exact ⟨rfl, hin _ (hk _ _ (hout _ hC) hb)⟩
end Go.Proofs.YtefcndfeemnglaaGreatDoor.Sc
