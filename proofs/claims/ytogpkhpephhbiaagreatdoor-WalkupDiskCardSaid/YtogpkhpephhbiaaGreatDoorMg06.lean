/- ScBa1, ScLi1, ScNm1, ScNm2, ScNm3, Tw2, Tw3, laid in one text. -/
import Derived.Test.YtogpkhpephhbiaaGreatDoorRows
import Derived.WalkKit
import Derived.WalkSpells
import Derived.WalkLawsBesides
import Derived.Deep.QuietTactic
import Derived.BigQuiet
import Derived.Maps.AppendAt
import Derived.Deep.AppendLies
import Derived.Laws.OwnMore
import Derived.Laws.AppendOwn
import Derived.OwnWalk
import Derived.WalkMore
import Derived.Scope
import Derived.Deep.LoopGhost
import Derived.Deep.DeepAppendWide
import Derived.Deep.RegionHeld3
import Derived.Lib.LazyBuf
import Derived.Test.YtogpkhpephhbiaaGreatDoorMg05
namespace Go.Proofs.YtogpkhpephhbiaaGreatDoor.Sc
open Go.RowKit
set_option maxRecDepth 100000

theorem hide3 {p : Prop} (h : p) : Hid p := h
theorem ret_bool {a b : Bool} (h : a = b) : Ending.returned (.bool a) = .returned (.bool b) := by rw [h]
theorem ret_int {a b : Int} (h : a = b) : Ending.returned (.int .i64 a) = .returned (.int .i64 b) := by rw [h]
theorem boxB (w : World) (o : Obj) : Below w.heap.size w (w.alloc o) := (Below.refl _ _).alloc (Nat.le_refl _) _
theorem below_then {w w1 w' : World} (h : Below w.heap.size w w1) (hb : Below w1.heap.size w1 w') : Below w.heap.size w w' := h.trans (hb.mono h.size)
theorem bytes_same {s t : ByteArray} (h : s.toList = t.toList) : s = t := by
  rw [ByteArray.toList_eq, ByteArray.toList_eq] at h
  cases s; cases t
  simp only [ByteArray.mk.injEq]
  exact Array.toList_inj.1 h
theorem list_size (s : ByteArray) : s.data.toList.length = s.size := rfl
theorem cell_in {W : World} {a : Addr} {v : Value} (h : W.cell? a = some v) : a.block < W.heap.size := by
  rcases Nat.lt_or_ge a.block W.heap.size with h' | h'
  · exact h'
  · simp [World.cell?, Array.getElem?_eq_none h'] at h
theorem info_parts {e : TypeId} {z : Value} {n b : Nat} (h : (Tryz.prog.info? e).map (fun i => (i.zero, i.size, i.bytes)) = some (some z, n, b)) : ∃ i, Tryz.prog.info? e = some i ∧ i.zero = some z ∧ i.size = n ∧ i.bytes = b := by
  cases hi : Tryz.prog.info? e with
  | none => rw [hi] at h; cases h
  | some i =>
    rw [hi] at h
    simp only [Option.map_some, Option.some.injEq, Prod.mk.injEq] at h
    exact ⟨i, rfl, h.1, h.2.1, h.2.2⟩
theorem infoStr : (Tryz.prog.info? 9).map (fun i => (i.zero, i.size, i.bytes)) = some (some (.string ByteArray.empty), 1, 16) := by kernel_rfl
theorem infoStrs : (Tryz.prog.info? 53).map (fun i => (i.zero, i.size, i.bytes)) = some (some (.slice none 0 0), 1, 24) := by kernel_rfl

/-- As Q; by a goto to a label: J. -/
def jumpM (J : Nat → Act → World → Prop) (Q : Exit → Act → World → Prop) : Exit → Act → World → Prop
  | .goto l, a, w => J l a w
  | e, a, w => Q e a w
section
variable {J : Nat → Act → World → Prop} {Q : Exit → Act → World → Prop} {a : Act} {w : World}
theorem jumpM_normal : jumpM J Q .normal a w = Q .normal a w := rfl
theorem jumpM_exit (id : Nat) : jumpM J Q (.exit id) a w = Q (.exit id) a w := rfl
theorem jumpM_ret : jumpM J Q .ret a w = Q .ret a w := rfl
theorem jumpM_goto (l : Nat) : jumpM J Q (.goto l) a w = J l a w := rfl
end
/-- A scope in which the run jumps among labels: what holds at each jump, and a measure that every pass lowers. -/
theorem wp_scope_many {P : Program} {a : Act} {w : World} {Q : Exit → Act → World → Prop} {c : Code} (J : Nat → Act → World → Prop) (μ : Nat → Act → World → Nat)
    (first : c.wp P (jumpM J Q) a w)
    (pass : ∀ l a w, J l a w → ∃ rest, findLabel c l = some rest ∧ rest.wp P (jumpM (fun l' a' w' => J l' a' w' ∧ μ l' a' w' < μ l a w) Q) a w) : (Code.scope c).wp P Q a w := by
  intro b k cs
  have key : ∀ n l a w, μ l a w = n → J l a w → ∃ rest, findLabel c l = some rest ∧ ∃ e a' w', Q e a' w' ∧ Arrives P (lone (b.at a (.code rest :: .inScope c :: k)) cs w) b k cs e a' w' := by
    intro n
    induction n using Nat.strongRecOn with
    | _ n ih =>
      intro l a w hn hJ
      obtain ⟨rest, hf, hp⟩ := pass l a w hJ
      refine ⟨rest, hf, ?_⟩
      obtain ⟨e, a₁, w₁, hq, harr⟩ := hp b (.inScope c :: k) cs
      cases e with
      | normal => exact ⟨.normal, a₁, w₁, hq, Steps.trans harr (.one step_inScope)⟩
      | exit id => exact ⟨.exit id, a₁, w₁, hq, fun k' hk => harr k' (by simp [exitTo, hk])⟩
      | goto l' =>
        obtain ⟨hJ', hlt⟩ := hq
        obtain ⟨rest', hf', e₂, a₂, w₂, hq₂, harr₂⟩ := ih _ (by omega) l' a₁ w₁ rfl hJ'
        have hg : gotoIn l' (.inScope c :: k) = some (.code rest' :: .inScope c :: k) := by simp [gotoIn, hf']
        exact ⟨e₂, a₂, w₂, hq₂, .of_steps (harr _ hg) harr₂⟩
      | ret => exact ⟨_, a₁, w₁, hq, harr⟩
      | panic ch => exact ⟨_, a₁, w₁, hq, harr⟩
      | outgrown => exact ⟨_, a₁, w₁, hq, harr⟩
  obtain ⟨e, a₁, w₁, hq, harr⟩ := first b (.inScope c :: k) cs
  cases e with
  | normal => exact ⟨.normal, a₁, w₁, hq, .head step_scope (Steps.trans harr (.one step_inScope))⟩
  | exit id => exact ⟨.exit id, a₁, w₁, hq, fun k' hk => .head step_scope (harr k' (by simp [exitTo, hk]))⟩
  | goto l' =>
    obtain ⟨rest', hf', e₂, a₂, w₂, hq₂, harr₂⟩ := key _ l' a₁ w₁ rfl hq
    have hg : gotoIn l' (.inScope c :: k) = some (.code rest' :: .inScope c :: k) := by simp [gotoIn, hf']
    exact ⟨e₂, a₂, w₂, hq₂, .of_steps (.head step_scope (harr _ hg)) harr₂⟩
  | ret => exact ⟨_, a₁, w₁, hq, .of_steps (.one step_scope) harr⟩
  | panic ch => exact ⟨_, a₁, w₁, hq, .of_steps (.one step_scope) harr⟩
  | outgrown => exact ⟨_, a₁, w₁, hq, .of_steps (.one step_scope) harr⟩

/-- Bytes as a text. -/
def ba (l : Bs) : ByteArray := ⟨l.toArray⟩
theorem ba_list (l : Bs) : (ba l).data.toList = l := by simp [ba]
theorem ba_of (s : ByteArray) : ba s.data.toList = s := by cases s; simp [ba]
theorem ba_inj {a b : Bs} (h : ba a = ba b) : a = b := by rw [← ba_list a, h, ba_list]
theorem ba_size (l : Bs) : (ba l).size = l.length := by show l.toArray.size = _; simp
theorem ba_extract (s : ByteArray) (f k : Nat) : s.extract f k = ba ((s.data.toList.take k).drop f) := by
  have : (s.extract f k).data.toList = (s.data.toList.take k).drop f := by
    rw [ByteArray.data_extract, Array.toList_extract, List.extract_eq_take_drop, List.drop_take]
  rw [← this, ba_of]

/-- Words as cells. -/
def strs (ws : List Bs) : List Value := ws.map fun w => .string (ba w)
theorem strs_length (ws : List Bs) : (strs ws).length = ws.length := by simp [strs]
theorem strs_snoc (ws : List Bs) (x : Bs) : strs (ws ++ [x]) = strs ws ++ [.string (ba x)] := by simp [strs]

/-- Words that lie in memory, wherever. -/
def WordsAt (w : World) (v : Value) (ws : List Bs) : Prop := ∃ ad cap, v = .slice ad ws.length cap ∧ ws.length ≤ cap ∧ (ws = [] ∨ ∃ g o, ad = some ⟨g, o, none⟩ ∧ g < w.heap.size ∧ ∀ i (h : i < ws.length), w.cell? ⟨g, o + i, none⟩ = some (.string (ba ws[i])))
/-- Lines that lie in memory. -/
def LinesAt (w : World) (v : Value) (L : List (List Bs)) : Prop := ∃ ad cap, v = .slice ad L.length cap ∧ L.length ≤ cap ∧ (L = [] ∨ ∃ g o, ad = some ⟨g, o, none⟩ ∧ g < w.heap.size ∧ ∀ i (h : i < L.length), ∃ u, w.cell? ⟨g, o + i, none⟩ = some u ∧ WordsAt w u L[i])

theorem WordsAt.below {w w' : World} {v : Value} {ws : List Bs} (h : WordsAt w v ws) (hb : Below w.heap.size w w') : WordsAt w' v ws := by
  obtain ⟨ad, cap, hv, hc, hl⟩ := h
  refine ⟨ad, cap, hv, hc, hl.imp id ?_⟩
  rintro ⟨g, o, ha, hg, hs⟩
  exact ⟨g, o, ha, Nat.lt_of_lt_of_le hg hb.size, fun i hi => (hb.cell (p := ⟨g, o + i, none⟩) hg).trans (hs i hi)⟩
theorem LinesAt.below {w w' : World} {v : Value} {L : List (List Bs)} (h : LinesAt w v L) (hb : Below w.heap.size w w') : LinesAt w' v L := by
  obtain ⟨ad, cap, hv, hc, hl⟩ := h
  refine ⟨ad, cap, hv, hc, hl.imp id ?_⟩
  rintro ⟨g, o, ha, hg, hs⟩
  refine ⟨g, o, ha, Nat.lt_of_lt_of_le hg hb.size, fun i hi => ?_⟩
  obtain ⟨u, h1, h2⟩ := hs i hi
  exact ⟨u, (hb.cell (p := ⟨g, o + i, none⟩) hg).trans h1, h2.below hb⟩

/-- Words of one's own. -/
def OwnW (w : World) (B : Nat) (v : Value) (ws : List Bs) : Prop := w.ownsRow B 9 1 v ws.length (strs ws)
theorem OwnW.nil (w : World) (B : Nat) : OwnW w B (.slice none 0 0) [] := ⟨rfl, Or.inl ⟨rfl, rfl⟩⟩
theorem OwnW.block {w : World} {B : Nat} {v : Value} {ws : List Bs} (h : OwnW w B v ws) (hne : ws ≠ []) : ∃ g, v.ownBlock = some g := by
  rcases h.2 with ⟨_, h0⟩ | ⟨g, cap, cur, rfl, _⟩
  · exact absurd (List.eq_nil_of_length_eq_zero h0) hne
  · exact ⟨g, rfl⟩
theorem OwnW.at {w : World} {B : Nat} {v : Value} {ws : List Bs} (h : OwnW w B v ws) : WordsAt w v ws := by
  have h0 := h
  rcases h.2 with ⟨rfl, hn⟩ | ⟨g, cap, cur, rfl, hB, hg, hc, _⟩
  · exact ⟨none, 0, by rw [hn], by omega, Or.inl (List.eq_nil_of_length_eq_zero hn)⟩
  · refine ⟨_, cap, rfl, hc, Or.inr ⟨g, 0, rfl, (Array.getElem?_eq_some_iff.1 hg).1, fun i hi => ?_⟩⟩
    have := World.ownsRow.cellAt h0 i (by omega)
    rw [Nat.zero_add, this]
    simp [strs, hi]

/-- Lines of one's own: no two of their rows are one. -/
def LL (w : World) (B : Nat) (vl : Value) (ps : List (Value × List Bs)) : Prop :=
  w.ownsRow B 53 1 vl ps.length (ps.map (·.1)) ∧ (∀ p ∈ ps, OwnW w B p.1 p.2 ∧ p.2 ≠ []) ∧ (ps.map (·.1.ownBlock)).Nodup ∧ (∀ p ∈ ps, vl.ownBlock ≠ p.1.ownBlock) ∧ (ps = [] → vl = .slice none 0 0)
theorem LL.nil (w : World) (B : Nat) : LL w B (.slice none 0 0) [] := ⟨⟨rfl, Or.inl ⟨rfl, rfl⟩⟩, (fun p hp => by cases hp), List.nodup_nil, (fun p hp => by cases hp), fun _ => rfl⟩
theorem LL.len {w : World} {B : Nat} {vl : Value} {ps : List (Value × List Bs)} (h : LL w B vl ps) : ∃ ad cap, vl = .slice ad ps.length cap := by
  rcases h.1.2 with ⟨rfl, hn⟩ | ⟨g, cap, cur, rfl, _⟩
  · exact ⟨none, 0, by rw [hn]⟩
  · exact ⟨_, cap, rfl⟩
theorem LL.kept {w w' : World} {B : Nat} {vl : Value} {ps : List (Value × List Bs)} {row : Option Nat} (h : LL w B vl ps) (hg : w.grownBy w' row) (h1 : vl.ownBlock = none ∨ vl.ownBlock ≠ row) (h2 : ∀ p ∈ ps, p.1.ownBlock ≠ row) : LL w' B vl ps :=
  ⟨h.1.kept hg h1, fun p hp => ⟨(h.2.1 p hp).1.kept hg (Or.inr (h2 p hp)), (h.2.1 p hp).2⟩, h.2.2.1, h.2.2.2⟩
theorem LL.at {w : World} {B : Nat} {vl : Value} {ps : List (Value × List Bs)} (h : LL w B vl ps) : LinesAt w vl (ps.map (·.2)) := by
  have h0 := h.1
  rcases h.1.2 with ⟨rfl, hn⟩ | ⟨g, cap, cur, rfl, hB, hg, hc, _⟩
  · have : ps = [] := List.eq_nil_of_length_eq_zero hn
    subst this
    exact ⟨none, 0, rfl, Nat.le_refl _, Or.inl rfl⟩
  · refine ⟨_, cap, by rw [List.length_map], by rw [List.length_map]; exact hc, Or.inr ⟨g, 0, rfl, (Array.getElem?_eq_some_iff.1 hg).1, fun i hi => ?_⟩⟩
    have hi' : i < ps.length := by simpa using hi
    have := World.ownsRow.cellAt h0 i (by omega)
    refine ⟨ps[i].1, by rw [Nat.zero_add, this]; simp [hi'], ?_⟩
    rw [List.getElem_map]
    exact (h.2.1 _ (List.getElem_mem hi')).1.at

/-- What the scanner has made: lines, and a line under way. -/
def St (w0 : World) (vl vw : Value) (ps : List (Value × List Bs)) (ws : List Bs) (w : World) : Prop :=
  LL w w0.heap.size vl ps ∧ OwnW w w0.heap.size vw ws ∧ (∀ p ∈ ps, vw.ownBlock ≠ p.1.ownBlock) ∧ (vw.ownBlock = none ∨ vw.ownBlock ≠ vl.ownBlock) ∧ Below w0.heap.size w0 w
theorem St.start (w : World) : St w (.slice none 0 0) (.slice none 0 0) [] [] w := ⟨LL.nil _ _, OwnW.nil _ _, (fun p hp => by cases hp), Or.inl rfl, Below.refl _ _⟩
theorem LL.below {w w' : World} {B : Nat} {vl : Value} {ps : List (Value × List Bs)} (h : LL w B vl ps) (hb : Below w.heap.size w w') : LL w' B vl ps := by
  have own : ∀ {e : TypeId} {v : Value} {n : Nat} {xs : List Value}, w.ownsRow B e 1 v n xs → w'.ownsRow B e 1 v n xs := by
    intro e v n xs ho
    refine ⟨ho.1, ?_⟩
    rcases ho.2 with hn | ⟨g, cap, cur, rfl, hB, hgg, r⟩
    · exact Or.inl hn
    · exact Or.inr ⟨g, cap, cur, rfl, hB, (hb.block g (Array.getElem?_eq_some_iff.1 hgg).1).trans hgg, r⟩
  exact ⟨own h.1, fun p hp => ⟨own (h.2.1 p hp).1, (h.2.1 p hp).2⟩, h.2.2.1, h.2.2.2⟩
theorem OwnW.below {w w' : World} {B : Nat} {v : Value} {ws : List Bs} (h : OwnW w B v ws) (hb : Below w.heap.size w w') : OwnW w' B v ws := by
  refine ⟨h.1, ?_⟩
  rcases h.2 with hn | ⟨g, cap, cur, rfl, hB, hgg, r⟩
  · exact Or.inl hn
  · exact Or.inr ⟨g, cap, cur, rfl, hB, (hb.block g (Array.getElem?_eq_some_iff.1 hgg).1).trans hgg, r⟩
theorem St.below {w0 : World} {vl vw : Value} {ps : List (Value × List Bs)} {ws : List Bs} {w w' : World} (h : St w0 vl vw ps ws w) (hb : Below w.heap.size w w') : St w0 vl vw ps ws w' :=
  ⟨h.1.below hb, h.2.1.below hb, h.2.2.1, h.2.2.2.1, below_then h.2.2.2.2 hb⟩

theorem St.word {w0 : World} {vl vw : Value} {ps : List (Value × List Bs)} {ws : List Bs} {w w' : World} {v' : Value} (x : Bs) (h : St w0 vl vw ps ws w) (ho : w'.ownsRow w0.heap.size 9 1 v' (ws.length + 1) (strs ws ++ [.string (ba x)])) (hg : w.grownBy w' vw.ownBlock) (hat : v'.ownBlock = vw.ownBlock ∨ v'.ownBlock = some w.heap.size) : St w0 vl v' ps (ws ++ [x]) w' := by
  obtain ⟨h1, h2, h3, h4, h5⟩ := h
  have hs := h5.size
  refine ⟨h1.kept hg ?_ fun p hp => (h3 p hp).symm, ?_, ?_, ?_, ?_⟩
  · rcases h4 with h4 | h4
    · rw [h4]
      cases hv : vl.ownBlock with
      | none => exact Or.inl rfl
      | some _ => exact Or.inr (by simp)
    · exact Or.inr h4.symm
  · unfold OwnW; rw [strs_snoc, List.length_append]; exact ho
  · intro p hp
    rcases hat with e | e
    · rw [e]; exact h3 p hp
    · rw [e]
      intro e2
      have := (World.ownsRow.lt (h1.2.1 p hp).1 _ e2.symm).2
      omega
  · rcases hat with e | e
    · rw [e]; exact h4
    · refine Or.inr ?_
      rw [e]
      intro e2
      have := (World.ownsRow.lt h1.1 _ e2.symm).2
      omega
  · exact h5.grown hg hs fun k hk => (World.ownsRow.lt h2 k hk).1

theorem St.line {w0 : World} {vl vw : Value} {ps : List (Value × List Bs)} {ws : List Bs} {w w' : World} {v' : Value} (h : St w0 vl vw ps ws w) (hne : ws ≠ []) (ho : w'.ownsRow w0.heap.size 53 1 v' (ps.length + 1) (ps.map (·.1) ++ [vw])) (hg : w.grownBy w' vl.ownBlock) (hat : v'.ownBlock = vl.ownBlock ∨ v'.ownBlock = some w.heap.size) : St w0 v' (.slice none 0 0) (ps ++ [(vw, ws)]) [] w' := by
  obtain ⟨h1, h2, h3, h4, h5⟩ := h
  have hs := h5.size
  obtain ⟨g, hgb⟩ := h2.block hne
  have hvw : vw.ownBlock ≠ vl.ownBlock := by
    rcases h4 with h4 | h4
    · rw [hgb] at h4; cases h4
    · exact h4
  have hlt := (World.ownsRow.lt h2 g hgb).2
  refine ⟨⟨?_, ?_, ?_, ?_, fun e => absurd e (by simp)⟩, OwnW.nil _ _, ?_, Or.inl rfl, ?_⟩
  · rw [List.length_append, List.map_append]; exact ho
  · intro p hp
    rcases List.mem_append.1 hp with hp | hp
    · exact ⟨(h1.2.1 p hp).1.kept hg (Or.inr (h1.2.2.2.1 p hp).symm), (h1.2.1 p hp).2⟩
    · obtain rfl : p = (vw, ws) := by simpa using hp
      exact ⟨h2.kept hg (Or.inr hvw), hne⟩
  · rw [List.map_append, List.nodup_append]
    refine ⟨h1.2.2.1, by simp, ?_⟩
    intro x hx y hy
    obtain ⟨p, hp, rfl⟩ := List.mem_map.1 hx
    simp only [List.map_cons, List.map_nil, List.mem_singleton] at hy
    rw [hy]
    exact (h3 p hp).symm
  · intro p hp
    have hold : ∀ k, p.1.ownBlock = some k → k < w.heap.size := by
      intro k hk
      rcases List.mem_append.1 hp with hp | hp
      · exact (World.ownsRow.lt (h1.2.1 p hp).1 k hk).2
      · obtain rfl : p = (vw, ws) := by simpa using hp
        exact (World.ownsRow.lt h2 k hk).2
    rcases hat with e | e
    · rw [e]
      rcases List.mem_append.1 hp with hp | hp
      · exact h1.2.2.2.1 p hp
      · obtain rfl : p = (vw, ws) := by simpa using hp
        exact hvw.symm
    · rw [e]
      intro e2
      have := hold _ e2.symm
      omega
  · intro p hp
    rcases List.mem_append.1 hp with hp | hp
    · obtain ⟨k, hk⟩ := (h1.2.1 p hp).1.block (h1.2.1 p hp).2
      rw [hk]; simp [Value.ownBlock]
    · obtain rfl : p = (vw, ws) := by simpa using hp
      show _ ≠ vw.ownBlock
      rw [hgb]; simp [Value.ownBlock]
  · exact h5.grown hg hs fun k hk => (World.ownsRow.lt h1.1 k hk).1
/-- What stays behind a call that writes new blocks alone. -/
def KeepP (K : World → Prop) : Prop := ∀ w w', K w → Below w.heap.size w w' → K w'
theorem KeepP.and {K M : World → Prop} (hk : KeepP K) (hm : KeepP M) : KeepP fun w => K w ∧ M w := fun _ _ h hb => ⟨hk _ _ h.1 hb, hm _ _ h.2 hb⟩
theorem KeepP.drew {K : World → Prop} (hk : KeepP K) {w : World} (h : K w) : K w.drew := hk _ _ h (Below.refl _ _).drew
theorem keepBelow (w : World) : KeepP fun w1 => Below w.heap.size w w1 := fun _ _ h hb => below_then h hb
def CellK (w : World) (g i : Nat) (v : Value) : Prop := w.cell? ⟨g, i, none⟩ = some v ∧ g < w.heap.size
theorem keepCell (g i : Nat) (v : Value) : KeepP fun w1 => CellK w1 g i v := fun _ _ h hb => ⟨(hb.cell (p := ⟨g, i, none⟩) h.2).trans h.1, Nat.lt_of_lt_of_le h.2 hb.size⟩
theorem keepWords (v : Value) (ws : List Bs) : KeepP fun w1 => WordsAt w1 v ws := fun _ _ h hb => h.below hb
theorem keepLines (v : Value) (L : List (List Bs)) : KeepP fun w1 => LinesAt w1 v L := fun _ _ h hb => h.below hb
theorem liftK {K : World → Prop} (hk : KeepP K) {P : Program} {f : Nat} {args : Array Value} {R : Ending} (h : ∀ w1, Calls P f args w1 fun e w' => e = R ∧ Below w1.heap.size w1 w') (w1 : World) (ok : K w1) :
    Calls P f args w1 fun e w' => e = R ∧ K w' := by
  refine (h w1).mono ?_
  rintro e w' ⟨rfl, hb⟩
  exact ⟨rfl, hk _ _ ok hb⟩
theorem liftK' {K : World → Prop} (hk : KeepP K) {P : Program} {f : Nat} {args : Array Value} {R : Ending} (h : ∀ w1, K w1 → Calls P f args w1 fun e w' => e = R ∧ Below w1.heap.size w1 w') (w1 : World) (ok : K w1) :
    Calls P f args w1 fun e w' => e = R ∧ K w' := by
  refine (h w1 ok).mono ?_
  rintro e w' ⟨rfl, hb⟩
  exact ⟨rfl, hk _ _ ok hb⟩
/-- A region that draws its order, whose operations read, and whose calls keep K: one walk in the order of the text serves. -/
theorem wp_region_keep {K : World → Prop} (hk : KeepP K) {P : Program} {id : Nat} {Q : Exit → Act → World → Prop} {a : Act} {w : World} {l : List Oper} (hm : P.follows .mixedOrders = true) (hB : Region.lexB .any l.toArray = true) (hC : K w)
    (h : ∀ C : World → Prop, (∀ w, K w → C w) → (∀ w, C w → K w) → wpQuiet P l.toArray C (fun a' => ∀ w', C w' → Q .normal a' w') l a) : (Code.region id l.toArray true).wp P Q a w :=
  wp_region_quiet (C := K) hm hB (hk.drew hC) (by simpa using h K (fun _ h => h) (fun _ h => h))
theorem callC {C K : World → Prop} (hin : ∀ w, K w → C w) (hout : ∀ w, C w → K w) (hk : KeepP K) {P : Program} {f : Nat} {args : Array Value} {v : Value} (h : ∀ w1, Calls P f args w1 fun e w' => e = .returned v ∧ Below w1.heap.size w1 w') (w1 : World) (hC : C w1) :
    Calls P f args w1 fun e w' => e = .returned v ∧ C w' := by
  refine (h w1).mono ?_
  rintro e w' ⟨rfl, hb⟩
  exact ⟨rfl, hin _ (hk _ _ (hout _ hC) hb)⟩
theorem callC' {C K : World → Prop} (hin : ∀ w, K w → C w) (hout : ∀ w, C w → K w) (hk : KeepP K) {P : Program} {f : Nat} {args : Array Value} {v : Value} (h : ∀ w1, K w1 → Calls P f args w1 fun e w' => e = .returned v ∧ Below w1.heap.size w1 w') (w1 : World) (hC : C w1) :
    Calls P f args w1 fun e w' => e = .returned v ∧ C w' := by
  refine (h w1 (hout _ hC)).mono ?_
  rintro e w' ⟨rfl, hb⟩
  exact ⟨rfl, hin _ (hk _ _ (hout _ hC) hb)⟩
end Go.Proofs.YtogpkhpephhbiaaGreatDoor.Sc
namespace Go.Proofs.YtogpkhpephhbiaaGreatDoor.Sc
open Go.RowKit
set_option maxRecDepth 100000

end Go.Proofs.YtogpkhpephhbiaaGreatDoor.Sc
namespace Go.Proofs.YtogpkhpephhbiaaGreatDoor.Sc
open Go.RowKit
set_option maxRecDepth 100000

def ltB (b : UInt8) : Bool := decide (97 ≤ b.toNat) && decide (b.toNat ≤ 122)
def dgB (b : UInt8) : Bool := decide (48 ≤ b.toNat) && decide (b.toNat ≤ 57)
def nmB (b : UInt8) : Bool := ltB b || dgB b || decide (b.toNat = 45)
/-- A name. -/
def nameR : Bs → Bool
  | [] => false
  | b :: r => ltB b && r.all nmB && decide (r.length < 16)

theorem letter_any (b : UInt8) (w : World) : Calls Tryz.prog 34 #[.int .u8 (b.toNat : Int)] w fun e w' => e = .returned (.bool (ltB b)) ∧ w' = w := by
  go_enter Tryz.func34, Tryz.ntmps34
  go_wp2
  all_goals
    go_ret
    refine ⟨ret_bool ?_, rfl⟩
    rw [Bool.eq_iff_iff]
    simp [ltB]
    omega
theorem digit_any (b : UInt8) (w : World) : Calls Tryz.prog 35 #[.int .u8 (b.toNat : Int)] w fun e w' => e = .returned (.bool (dgB b)) ∧ w' = w := by
  go_enter Tryz.func35, Tryz.ntmps35
  go_wp2
  all_goals
    go_ret
    refine ⟨ret_bool ?_, rfl⟩
    rw [Bool.eq_iff_iff]
    simp [dgB]
    omega
end Go.Proofs.YtogpkhpephhbiaaGreatDoor.Sc
namespace Go.Proofs.YtogpkhpephhbiaaGreatDoor.Sc
open Go.RowKit
set_option maxRecDepth 100000

def headB : Bs → Bool
  | [] => false
  | b :: _ => ltB b
/-- A name. -/
def nameA (t : Bs) : Bool := headB t && t.all nmB && decide (t.length ≤ 16)
theorem empty_is {p : ByteArray} : p.toList.isEmpty = p.data.toList.isEmpty := by rw [ByteArray.toList_eq]
theorem nameA_empty {t : Bs} (h : t.isEmpty = true) : nameA t = false := by cases t <;> simp_all [nameA, headB]
theorem head_at {s : ByteArray} (h : 0 < s.size) : headB s.data.toList = ltB s[0] := by
  have : s.data.toList = s[0] :: s.data.toList.drop 1 := by
    have := List.drop_eq_getElem_cons (l := s.data.toList) (i := 0) (by rw [list_size]; exact h)
    rw [List.drop_zero] at this
    exact this
  rw [this]
  rfl
theorem size_pos {s : ByteArray} (h : s.toList.isEmpty = false) : 0 < s.size := by
  rw [empty_is] at h
  rw [← list_size]
  cases hs : s.data.toList with
  | nil => rw [hs] at h; cases h
  | cons _ _ => simp
theorem all_bad {s : ByteArray} {k : Nat} (hk : k < s.size) {f : UInt8 → Bool} (h : f s[k] = false) : s.data.toList.all f = false := by
  rw [Bool.eq_false_iff]
  intro ha
  rw [List.all_eq_true] at ha
  have := ha s[k] (List.getElem_mem (l := s.data.toList) (n := k) (by rw [list_size]; exact hk))
  rw [h] at this; cases this
theorem all_more {s : ByteArray} {k : Nat} (hk : k < s.size) {f : UInt8 → Bool} (h : (s.data.toList.take k).all f = true) (hb : f s[k] = true) : (s.data.toList.take (k + 1)).all f = true := by
  rw [List.take_succ_eq_append_getElem (by rw [list_size]; exact hk), List.all_append, h]
  simp only [List.all_cons, List.all_nil, Bool.and_true, Bool.true_and]
  exact hb
theorem all_end {s : ByteArray} {f : UInt8 → Bool} (h : (s.data.toList.take s.size).all f = true) : s.data.toList.all f = true := by
  rw [List.take_of_length_le (by rw [list_size]; exact Nat.le_refl _)] at h
  exact h

set_option maxHeartbeats 3200000 in
theorem Name_any (s : ByteArray) (w : World) : Calls Tryz.prog 20 #[.string s] w fun e w' => e = .returned (.bool (nameA s.data.toList)) ∧ w' = w := by
  cases he : s.toList.isEmpty
  · have h0 := size_pos he
    by_cases h16 : s.size ≤ 16
    · have HH := hide3 (head_at h0)
      have HL := hide3 (letter_any s[0])
      cases hl : ltB s[0]
      · have HR : Hid (nameA s.data.toList = false) := by unfold Hid nameA; rw [HH.out, hl]; rfl
        rw [hl] at HL
        clear hl
        go_enter Tryz.func20, Tryz.ntmps20
        go_wp2_with (go_at_call 34; refine (HL.out _).mono ?_; rintro e w1 ⟨rfl, hw1⟩; subst hw1)
        go_ret
        exact ⟨ret_bool HR.out.symm, rfl⟩
      · rw [hl] at HL HH
        clear hl
        have HLT : Hid (∀ b : UInt8, ∀ w1, Calls Tryz.prog 34 #[.int .u8 (b.toNat : Int)] w1 fun e w' => e = .returned (.bool (ltB b)) ∧ w' = w1) := letter_any
        have HDG : Hid (∀ b : UInt8, ∀ w1, Calls Tryz.prog 35 #[.int .u8 (b.toNat : Int)] w1 fun e w' => e = .returned (.bool (dgB b)) ∧ w' = w1) := digit_any
        go_enter Tryz.func20, Tryz.ntmps20
        go_wp2_with (go_at_call 34; refine (HL.out _).mono ?_; rintro e w1 ⟨rfl, hw1⟩; subst hw1; clear HL)
        go_loop [19] (fun i => ∃ k : Nat, k ≤ s.size ∧ i = .int .i64 k ∧ (s.data.toList.take k).all nmB = true) (fun i => s.size - (intOf i).toNat)
        case atStart => exact ⟨0, Nat.zero_le _, rfl, rfl⟩
        case round =>
          obtain ⟨k, hk, rfl, hal⟩ := hrel
          have HA := hide3 hal
          clear hal
          by_cases hlt : k < s.size
          · have HLk := hide3 (HLT.out s[k])
            have HDk := hide3 (HDG.out s[k])
            cases h1 : ltB s[k]
            · cases h2 : dgB s[k]
              · by_cases h3 : s[k].toNat = 45
                · have hn : nmB s[k] = true := by unfold nmB; rw [h1, h2, decide_eq_true h3]; rfl
                  have HA2 := hide3 (all_more hlt HA.out hn)
                  have e3 : ((s[k].toNat : Int) == 45) = true := by rw [beq_iff_eq]; omega
                  rw [h1] at HLk
                  rw [h2] at HDk
                  clear h1 h2 h3 hn
                  go_wp2_with (first | (go_at_call 34; refine (HLk.out _).mono ?_; rintro e w1 ⟨rfl, hw1⟩; subst hw1) | (go_at_call 35; refine (HDk.out _).mono ?_; rintro e w1 ⟨rfl, hw1⟩; subst hw1))
                  exact ⟨⟨k + 1, by omega, by go_num, HA2.out⟩, by simp [intOf]; omega⟩
                · have hn : nmB s[k] = false := by unfold nmB; rw [h1, h2, decide_eq_false h3]; rfl
                  have HR : Hid (nameA s.data.toList = false) := by unfold Hid nameA; rw [all_bad hlt hn]; simp
                  have e3 : ((s[k].toNat : Int) == 45) = false := by rw [beq_eq_false_iff_ne]; omega
                  rw [h1] at HLk
                  rw [h2] at HDk
                  clear h1 h2 h3 hn
                  go_wp2_with (first | (go_at_call 34; refine (HLk.out _).mono ?_; rintro e w1 ⟨rfl, hw1⟩; subst hw1) | (go_at_call 35; refine (HDk.out _).mono ?_; rintro e w1 ⟨rfl, hw1⟩; subst hw1))
                  go_ret
                  exact ⟨ret_bool HR.out.symm, rfl⟩
              · have hn : nmB s[k] = true := by unfold nmB; rw [h1, h2]; rfl
                have HA2 := hide3 (all_more hlt HA.out hn)
                rw [h1] at HLk
                rw [h2] at HDk
                clear h1 h2 hn
                go_wp2_with (first | (go_at_call 34; refine (HLk.out _).mono ?_; rintro e w1 ⟨rfl, hw1⟩; subst hw1) | (go_at_call 35; refine (HDk.out _).mono ?_; rintro e w1 ⟨rfl, hw1⟩; subst hw1))
                exact ⟨⟨k + 1, by omega, by go_num, HA2.out⟩, by simp [intOf]; omega⟩
            · have hn : nmB s[k] = true := by unfold nmB; rw [h1]; rfl
              have HA2 := hide3 (all_more hlt HA.out hn)
              rw [h1] at HLk
              clear h1 hn
              go_wp2_with (go_at_call 34; refine (HLk.out _).mono ?_; rintro e w1 ⟨rfl, hw1⟩; subst hw1)
              exact ⟨⟨k + 1, by omega, by go_num, HA2.out⟩, by simp [intOf]; omega⟩
          · have hke : k = s.size := by omega
            subst hke
            have HR : Hid (nameA s.data.toList = true) := by unfold Hid nameA; rw [HH.out, all_end HA.out, list_size, decide_eq_true h16]; rfl
            go_wp2
            go_ret
            exact ⟨ret_bool HR.out.symm, rfl⟩
    · have HR : Hid (nameA s.data.toList = false) := by unfold Hid nameA; rw [list_size, decide_eq_false h16]; simp
      go_enter Tryz.func20, Tryz.ntmps20
      go_wp2
      go_ret
      exact ⟨ret_bool HR.out.symm, rfl⟩
  · have HR : Hid (nameA s.data.toList = false) := nameA_empty (by rw [← empty_is]; exact he)
    go_enter Tryz.func20, Tryz.ntmps20
    go_wp2
    go_ret
    exact ⟨ret_bool HR.out.symm, rfl⟩
end Go.Proofs.YtogpkhpephhbiaaGreatDoor.Sc
namespace Go.Proofs.YtogpkhpephhbiaaGreatDoor.Sc
open Go.RowKit
set_option maxRecDepth 100000

theorem ltB_iff (b : UInt8) : ltB b = true ↔ 97 ≤ b.toNat ∧ b.toNat ≤ 122 := by simp [ltB]
theorem dgB_iff (b : UInt8) : dgB b = true ↔ 48 ≤ b.toNat ∧ b.toNat ≤ 57 := by simp [dgB]
theorem nmB_iff (b : UInt8) : nmB b = true ↔ (97 ≤ b.toNat ∧ b.toNat ≤ 122) ∨ (48 ≤ b.toNat ∧ b.toNat ≤ 57) ∨ b.toNat = 45 := by
  unfold nmB
  rw [Bool.or_eq_true, Bool.or_eq_true, ltB_iff, dgB_iff, decide_eq_true_eq, or_assoc]

set_option maxHeartbeats 6400000 in
theorem rName_any (s : ByteArray) (hs : s.size ≤ 9223372036854775807) (w : World) : Calls Tryz.prog 26 #[.string s] w fun e w' => e = .returned (.bool (nameA s.data.toList)) ∧ w' = w := by
  go_enter Tryz.func26, Tryz.ntmps26
  go_wp2
  go_loop [3] (fun i => ∃ k : Nat, k ≤ s.size ∧ i = .int .i64 k ∧ (s.data.toList.take k).all nmB = true ∧ (k = 0 ∨ headB s.data.toList = true)) (fun i => s.size - (intOf i).toNat)
  case atStart => exact ⟨0, Nat.zero_le _, rfl, rfl, Or.inl rfl⟩
  case round =>
    obtain ⟨k, hk, rfl, hal, hhd⟩ := hrel
    have HA := hide3 hal
    have HH := hide3 hhd
    clear hal hhd
    by_cases hlt : k < s.size
    · by_cases h1 : 97 ≤ s[k].toNat ∧ s[k].toNat ≤ 122
      · have HA2 := hide3 (all_more hlt HA.out ((nmB_iff _).2 (Or.inl h1)))
        have HH2 : Hid (k + 1 = 0 ∨ headB s.data.toList = true) := by
          rcases HH.out with rfl | h
          · exact Or.inr (by rw [head_at hlt]; exact (ltB_iff _).2 h1)
          · exact Or.inr h
        obtain ⟨a1, a2⟩ := h1
        have b2 : decide ((s[k].toNat : Int) ≤ 122) = true := decide_eq_true (by omega)
        have b4 : decide ((s[k].toNat : Int) ≤ 57) = false := decide_eq_false (by omega)
        go_wp2
        exact ⟨⟨k + 1, by omega, by go_num, HA2.out, HH2.out⟩, by simp [intOf]; omega⟩
      · by_cases hz : k = 0
        · have HR : Hid (nameA s.data.toList = false) := by
            unfold Hid nameA
            subst hz
            rw [head_at hlt]
            have : ltB s[0] = false := by rw [Bool.eq_false_iff]; intro h; exact h1 ((ltB_iff _).1 h)
            rw [this]; rfl
          have ez : ((k : Int) == 0) = true := by rw [hz]; rfl
          by_cases h2 : 97 ≤ s[k].toNat
          · have h3 : 122 < s[k].toNat := by omega
            have b2 : decide ((s[k].toNat : Int) ≤ 122) = false := decide_eq_false (by omega)
            have b4 : decide ((s[k].toNat : Int) ≤ 57) = false := decide_eq_false (by omega)
            clear h1 hz
            go_wp2
            go_ret
            exact ⟨ret_bool HR.out.symm, rfl⟩
          · clear h1 hz
            by_cases d1 : 48 ≤ s[k].toNat
            · by_cases d2 : s[k].toNat ≤ 57
              · have b4 : decide ((s[k].toNat : Int) ≤ 57) = true := decide_eq_true (by omega)
                go_wp2
                go_ret
                exact ⟨ret_bool HR.out.symm, rfl⟩
              · have b4 : decide ((s[k].toNat : Int) ≤ 57) = false := decide_eq_false (by omega)
                go_wp2
                go_ret
                exact ⟨ret_bool HR.out.symm, rfl⟩
            · go_wp2
              all_goals
                go_ret
                exact ⟨ret_bool HR.out.symm, rfl⟩
        · have ez : ((k : Int) == 0) = false := by rw [beq_eq_false_iff_ne]; omega
          have HH2 : Hid (k + 1 = 0 ∨ headB s.data.toList = true) := Or.inr (HH.out.resolve_left hz)
          by_cases h2 : (48 ≤ s[k].toNat ∧ s[k].toNat ≤ 57) ∨ s[k].toNat = 45
          · have HA2 := hide3 (all_more hlt HA.out ((nmB_iff _).2 (Or.inr h2)))
            by_cases hm : s[k].toNat = 45
            · have em : ((s[k].toNat : Int) == 45) = true := by rw [beq_iff_eq]; omega
              have c1 : ¬ 97 ≤ s[k].toNat := by omega
              have c2 : ¬ 48 ≤ s[k].toNat := by omega
              clear h1 h2 hz hm
              go_wp2
              exact ⟨⟨k + 1, by omega, by go_num, HA2.out, HH2.out⟩, by simp [intOf]; omega⟩
            · obtain ⟨d1, d2⟩ := h2.resolve_right hm
              have c1 : ¬ 97 ≤ s[k].toNat := by omega
              have b4 : decide ((s[k].toNat : Int) ≤ 57) = true := decide_eq_true (by omega)
              clear h1 h2 hz hm
              go_wp2
              exact ⟨⟨k + 1, by omega, by go_num, HA2.out, HH2.out⟩, by simp [intOf]; omega⟩
          · have hn : nmB s[k] = false := by rw [Bool.eq_false_iff]; intro h; rcases (nmB_iff _).1 h with h | h; exact h1 h; exact h2 h
            have HR : Hid (nameA s.data.toList = false) := by unfold Hid nameA; rw [all_bad hlt hn]; simp
            have em : ((s[k].toNat : Int) == 45) = false := by rw [beq_eq_false_iff_ne]; omega
            by_cases c1 : 97 ≤ s[k].toNat
            · have c2 : 122 < s[k].toNat := by omega
              have b2 : decide ((s[k].toNat : Int) ≤ 122) = false := decide_eq_false (by omega)
              have b4 : decide ((s[k].toNat : Int) ≤ 57) = false := decide_eq_false (by omega)
              clear h1 h2 hz hn
              go_wp2
              go_ret
              exact ⟨ret_bool HR.out.symm, rfl⟩
            · by_cases d1 : 48 ≤ s[k].toNat
              · have d2 : 57 < s[k].toNat := by omega
                have b4 : decide ((s[k].toNat : Int) ≤ 57) = false := decide_eq_false (by omega)
                clear h1 h2 hz hn
                go_wp2
                go_ret
                exact ⟨ret_bool HR.out.symm, rfl⟩
              · clear h1 h2 hz hn
                go_wp2
                go_ret
                exact ⟨ret_bool HR.out.symm, rfl⟩
    · have hke : k = s.size := by omega
      subst hke
      cases he : s.toList.isEmpty
      · have h0 := size_pos he
        have hh := HH.out.resolve_left (by omega)
        by_cases h16 : s.size ≤ 16
        · have HR : Hid (nameA s.data.toList = true) := by unfold Hid nameA; rw [hh, all_end HA.out, list_size, decide_eq_true h16]; rfl
          clear hh
          go_wp2
          go_ret
          exact ⟨ret_bool ((decide_eq_true (by omega)).trans HR.out.symm), rfl⟩
        · have HR : Hid (nameA s.data.toList = false) := by unfold Hid nameA; rw [list_size, decide_eq_false h16]; simp
          clear hh
          go_wp2
          go_ret
          exact ⟨ret_bool ((decide_eq_false (by omega)).trans HR.out.symm), rfl⟩
      · have HR : Hid (nameA s.data.toList = false) := nameA_empty (by rw [← empty_is]; exact he)
        go_wp2
        go_ret
        exact ⟨ret_bool HR.out.symm, rfl⟩
end Go.Proofs.YtogpkhpephhbiaaGreatDoor.Sc
namespace Go.Proofs.YtogpkhpephhbiaaGreatDoor
open Go.RowKit
set_option maxRecDepth 100000

/-- The place of the first directory with a path; -1: none. -/
noncomputable def findV (L : List Dr) (p : List ByteArray) : Int := match L.findIdx? (fun d => eqB d.pa p) with
  | some i => (i : Int)
  | none => -1
theorem findV_at {L : List Dr} {p : List ByteArray} {k : Nat} (hk : k < L.length) (h : L[k].pa = p) (hall : ∀ j (_ : j < k) (h1 : j < L.length), L[j].pa ≠ p) : findV L p = k := by
  have e : L.findIdx? (fun d => eqB d.pa p) = some k := by
    rw [List.findIdx?_eq_some_iff_getElem]
    refine ⟨hk, eqB_yes h, fun j hj => ?_⟩
    rw [eqB_no (hall j hj (by omega))]
    simp
  unfold findV
  rw [e]
theorem findV_no {L : List Dr} {p : List ByteArray} (hall : ∀ j (h1 : j < L.length), L[j].pa ≠ p) : findV L p = -1 := by
  have e : L.findIdx? (fun d => eqB d.pa p) = none := by
    rw [List.findIdx?_eq_none_iff]
    intro d hd
    obtain ⟨i, hi, rfl⟩ := List.getElem_of_mem hd
    exact eqB_no (hall i hi)
  unfold findV
  rw [e]
theorem findV_or (L : List Dr) (p : List ByteArray) : (findV L p = -1 ∧ ∀ j (h1 : j < L.length), L[j].pa ≠ p) ∨ ∃ k, ∃ hk : k < L.length, findV L p = (k : Int) ∧ L[k].pa = p ∧ ∀ j (_ : j < k) (h1 : j < L.length), L[j].pa ≠ p := by
  cases e : L.findIdx? (fun d => eqB d.pa p) with
  | none =>
    rw [List.findIdx?_eq_none_iff] at e
    have hall : ∀ j (h1 : j < L.length), L[j].pa ≠ p := fun j h1 h => by
      have := e _ (List.getElem_mem h1)
      rw [eqB_yes h] at this
      cases this
    exact Or.inl ⟨findV_no hall, hall⟩
  | some k =>
    rw [List.findIdx?_eq_some_iff_getElem] at e
    obtain ⟨hk, h, hall⟩ := e
    have h1 : L[k].pa = p := eqB_iff.1 h
    have h2 : ∀ j (_ : j < k) (h1 : j < L.length), L[j].pa ≠ p := fun j hj h1 h => hall j hj (eqB_yes h)
    exact Or.inr ⟨k, hk, findV_at hk h1 h2, h1, h2⟩
theorem findV_lt (L : List Dr) (p : List ByteArray) : findV L p < L.length := by
  rcases findV_or L p with ⟨h, _⟩ | ⟨k, hk, h, _⟩ <;> rw [h] <;> omega
theorem findV_ge (L : List Dr) (p : List ByteArray) : -1 ≤ findV L p := by
  rcases findV_or L p with ⟨h, _⟩ | ⟨k, hk, h, _⟩ <;> rw [h] <;> omega

/-- What a lookup finds from the first k names of a path upwards. -/
noncomputable def lookN (L : List Dr) (p : List ByteArray) (s : ByteArray) : Nat → Int
  | 0 => findV L (p.take 0 ++ [s])
  | k + 1 => if findV L (p.take (k + 1) ++ [s]) = -1 then lookN L p s k else findV L (p.take (k + 1) ++ [s])
/-- What a lookup finds. -/
noncomputable def lookV (L : List Dr) (f : Int) (s : ByteArray) : Int := if h : 0 ≤ f ∧ f.toNat < L.length ∧ Sc.nameA s.data.toList = true then lookN L (L[f.toNat]'h.2.1).pa s (L[f.toNat]'h.2.1).pa.length else -1
theorem look_hit {L : List Dr} {p : List ByteArray} {s : ByteArray} {k : Nat} (h : findV L (p.take k ++ [s]) ≠ -1) : lookN L p s k = findV L (p.take k ++ [s]) := by
  cases k with
  | zero => rfl
  | succ k => unfold lookN; rw [if_neg h]
theorem look_miss {L : List Dr} {p : List ByteArray} {s : ByteArray} {k : Nat} (h : findV L (p.take (k + 1) ++ [s]) = -1) : lookN L p s (k + 1) = lookN L p s k := by
  rw [lookN, if_pos h]
theorem look_end {L : List Dr} {p : List ByteArray} {s : ByteArray} : lookN L p s 0 = findV L (p.take 0 ++ [s]) := rfl
theorem lookN_lt (L : List Dr) (p : List ByteArray) (s : ByteArray) : ∀ k, lookN L p s k < L.length ∧ -1 ≤ lookN L p s k
  | 0 => ⟨findV_lt _ _, findV_ge _ _⟩
  | k + 1 => by
    unfold lookN
    split
    · exact lookN_lt L p s k
    · exact ⟨findV_lt _ _, findV_ge _ _⟩
theorem lookV_lt (L : List Dr) (f : Int) (s : ByteArray) : lookV L f s < L.length ∧ -1 ≤ lookV L f s := by
  unfold lookV
  split
  · exact lookN_lt _ _ _ _
  · omega

/-- A tree's variable. -/
def BxT (w : World) (N : Nat) (v : Value) : Prop := w.cell? ⟨N, 0, none⟩ = some v ∧ N < w.heap.size
theorem keepBxT (N : Nat) (v : Value) : KeepP fun w1 => BxT w1 N v := fun _ _ h hb => ⟨(hb.cell (p := ⟨N, 0, none⟩) h.2).trans h.1, Nat.lt_of_lt_of_le h.2 hb.size⟩
theorem BxT.new (w : World) (v : Value) : BxT (w.alloc (.cells #[v] 67)) w.heap.size v := ⟨by simp, by simp⟩

set_option maxHeartbeats 1600000 in
theorem tFind_any {L : List Dr} {v : Value} {p : List ByteArray} {vp : Value} {w : World} (h : DirsAt w v L) (hz : L.length ≤ 9223372036854775807) (hf : FitD L) (hp : PathAt w vp p) :
    Calls Tryz.prog 43 #[.agg #[v], vp] w fun e w' => e = .returned (.int .i64 (findV L p)) ∧ Below w.heap.size w w' := by
  have HE : Hid (∀ w1, Below w.heap.size w w1 → ∀ u A, PathAt w1 u A → A.length ≤ 9223372036854775807 → Calls Tryz.prog 55 #[u, vp] w1 fun e w' => e = .returned (.bool (eqB A p)) ∧ Below w1.heap.size w1 w') := fun w1 hb u A hu hl => EqualS_any hu (hp.below hb) hl
  obtain ⟨ad, cap, rfl, hc, hsl⟩ := h.sl
  have HS : Hid (∀ w1, Below w.heap.size w w1 → ∀ i (_ : i < L.length), ∃ g o, ad = some ⟨g, o, none⟩ ∧ ∃ u v1 v2 v3, DrIn w1 g (o + i * 9) L[i] u v1 v2 v3) := fun w1 hb i hi => by
    obtain ⟨g, o, e, u, v1, v2, v3, hd⟩ := hsl i hi
    exact ⟨g, o, e, u, v1, v2, v3, hd.below hb⟩
  have HF := hide3 hf
  obtain ⟨pd, pc, rfl⟩ := hp.sl
  clear h hp hsl hf
  go_enter Tryz.func43, Tryz.ntmps43
  go_wp2_with fail
  go_loopw [9] (fun i wr => ∃ k : Nat, k ≤ L.length ∧ i = .int .i64 k ∧ (Below w.heap.size w wr ∧ BxT wr w.heap.size (.slice ad L.length cap)) ∧ ∀ j (_ : j < k) (h1 : j < L.length), L[j].pa ≠ p) (fun i _ => L.length - (intOf i).toNat)
  case atStart => exact ⟨0, Nat.zero_le _, rfl, ⟨boxB _ _, BxT.new _ _⟩, fun j h => by omega⟩
  case round =>
    obtain ⟨k, hk, rfl, ⟨hb, bx0, bx1⟩, hall⟩ := hrel
    have HALL := hide3 hall
    have HB := hide3 hb
    clear hall
    by_cases hlt : k < L.length
    · obtain ⟨g, o, rfl, u, v1, v2, v3, ⟨c0, c1, c2, c3, c4, c5, c6, c7, c8⟩, ⟨hpa, hpk⟩, hg⟩ := HS.out wr hb k hlt
      have HC := hide3 (HE.out wr hb u _ hpa (HF.out _ (List.getElem_mem hlt)))
      have HY : Hid (L[k].pa = p → findV L p = k) := fun h => findV_at hlt h HALL.out
      have HN : Hid (L[k].pa ≠ p → ∀ j (_ : j < k + 1) (h1 : j < L.length), L[j].pa ≠ p) := fun h j hj h1 => by
        rcases Nat.lt_or_ge j k with hjk | hjk
        · exact HALL.out j hjk h1
        · obtain rfl : j = k := by omega
          exact h
      obtain ⟨ua, uc, rfl⟩ := hpa.sl
      clear c1 c2 c3 c4 c5 c6 c7 c8 hpk hpa hb
      have HBX : Hid (BxT wr w.heap.size (.slice (some ⟨g, o, none⟩) L.length cap)) := ⟨bx0, bx1⟩
      generalize L[k].pa.length = n at *
      by_cases hq : L[k].pa = p
      · have HR := hide3 (HY.out hq)
        rw [eqB_yes hq] at HC
        clear HY HN HALL hq
        go_wp2_with (go_at_call 55; refine HC.out.mono ?_; rintro x w1 ⟨rfl, ok⟩)
        go_ret
        exact ⟨Sc.ret_int HR.out.symm, below_then HB.out ok⟩
      · have HR := hide3 (HN.out hq)
        rw [eqB_no hq] at HC
        clear HY HN HALL hq
        go_wp2_with (go_at_call 55; refine HC.out.mono ?_; rintro x w1 ⟨rfl, ok⟩)
        exact ⟨⟨k + 1, by omega, by go_num, ⟨below_then HB.out ok, keepBxT _ _ _ _ HBX.out ok⟩, HR.out⟩, by simp [intOf]; omega⟩
    · have hke : k = L.length := by omega
      subst hke
      have HR : Hid (findV L p = -1) := findV_no fun j h1 => HALL.out j h1 h1
      clear hb
      go_wp2
      go_ret
      exact ⟨Sc.ret_int HR.out.symm, HB.out⟩
end Go.Proofs.YtogpkhpephhbiaaGreatDoor
namespace Go.Proofs.YtogpkhpephhbiaaGreatDoor
open Go.RowKit
set_option maxRecDepth 100000

/-- Names as cells. -/
def pcs (L : List ByteArray) : List Value := L.map .string
theorem pcs_length (L : List ByteArray) : (pcs L).length = L.length := by simp [pcs]
theorem pcs_one (L : List ByteArray) : ∀ u ∈ pcs L, u.oneCell' = true := fun u hu => by
  obtain ⟨s, _, rfl⟩ := List.mem_map.1 hu
  rfl
/-- A path of one's own. -/
def OwnPa (w : World) (B : Nat) (v : Value) (L : List ByteArray) : Prop := w.ownsRow B 9 1 v L.length (pcs L)
theorem OwnPa.below {w w' : World} {B : Nat} {v : Value} {L : List ByteArray} (h : OwnPa w B v L) (hb : Below w.heap.size w w') : OwnPa w' B v L := by
  refine ⟨h.1, ?_⟩
  rcases h.2 with hn | ⟨g, cap, cur, rfl, hB, hgg, r⟩
  · exact Or.inl hn
  · exact Or.inr ⟨g, cap, cur, rfl, hB, (hb.block g (Array.getElem?_eq_some_iff.1 hgg).1).trans hgg, r⟩
theorem OwnPa.base {w : World} {B B' : Nat} {v : Value} {L : List ByteArray} (h : OwnPa w B v L) (hb : B' ≤ B) : OwnPa w B' v L := by
  refine ⟨h.1, h.2.imp id ?_⟩
  rintro ⟨g, cap, cur, e, hB, r⟩
  exact ⟨g, cap, cur, e, Nat.le_trans hb hB, r⟩
theorem OwnPa.form {w : World} {B : Nat} {v : Value} {L : List ByteArray} (h : OwnPa w B v L) : ∃ ad cap, v = .slice ad L.length cap ∧ L.length ≤ cap := by
  rcases h.2 with ⟨rfl, hn⟩ | ⟨g, cap, cur, rfl, hB, hg, hc, _⟩
  · exact ⟨none, 0, by rw [hn], by omega⟩
  · exact ⟨_, cap, rfl, hc⟩
theorem OwnPa.at {w : World} {B : Nat} {v : Value} {L : List ByteArray} (h : OwnPa w B v L) : PathAt w v L := by
  have h0 := h
  rcases h.2 with ⟨rfl, hn⟩ | ⟨g, cap, cur, rfl, hB, hg, hc, _⟩
  · exact ⟨none, 0, by rw [hn], by omega, Or.inl (List.eq_nil_of_length_eq_zero hn)⟩
  · refine ⟨_, cap, rfl, hc, Or.inr ⟨g, 0, rfl, fun i hi => ⟨?_, (Array.getElem?_eq_some_iff.1 hg).1⟩⟩⟩
    have := World.ownsRow.cellAt h0 i (by omega)
    rw [Nat.zero_add, this]
    simp [pcs, hi]
theorem OwnPa.cut {w : World} {B : Nat} {ad : Option Addr} {n cap : Nat} {L : List ByteArray} (h : OwnPa w B (.slice ad n cap) L) {k : Nat} (hk : k ≤ n) : OwnPa w B (.slice ad k cap) (L.take k) := by
  have hln : n = L.length := by
    obtain ⟨_, _, e, _⟩ := h.form
    injection e
  subst hln
  have hkl : (L.take k).length = k := by rw [List.length_take]; omega
  refine ⟨by rw [pcs_length, Nat.mul_one], ?_⟩
  rcases h.2 with ⟨e, hn⟩ | ⟨g, cap', cur, e, hB, hg, hc, hm, hs, ht⟩
  · injection e with e1 e2 e3
    refine Or.inl ⟨?_, by omega⟩
    rw [e1, e3, show k = 0 by omega]
  · injection e with e1 e2 e3
    refine Or.inr ⟨g, cap', cur, by rw [e1, e3, hkl], hB, hg, by omega, hm, hs, ?_⟩
    rw [hkl, Nat.mul_one]
    rw [Nat.mul_one] at ht
    have : cur.toList.take k = (cur.toList.take L.length).take k := by rw [List.take_take, Nat.min_eq_left hk]
    rw [this, ht]
    unfold pcs
    rw [List.map_take]

theorem path_news {w : World} {g o : Nat} {L : List ByteArray} (h : ∀ i (h : i < L.length), StIn w g (o + i) L[i]) : ∀ j u, (pcs L)[j]? = some u → w.cell? ((⟨g, o, none⟩ : Addr).add j) = some u := fun j u hj => by
  have ad : (⟨g, o, none⟩ : Addr).add j = ⟨g, o + j, none⟩ := by unfold Addr.add; split <;> simp_all
  rw [ad]
  have hl : j < L.length := by
    have := (List.getElem?_eq_some_iff.1 hj).1
    rwa [pcs_length] at this
  rw [(h j hl).1, ← hj]
  simp [pcs, hl]

/-- A name put behind names of one's own: what was there stays. -/
theorem run_app_keep (w : World) (B : Nat) (t ty e : TypeId) (i : TypeInfo) (z : Value) (bytes : Nat) (ht : Tryz.prog.underlying t = some (.slice e)) (hi : Tryz.prog.info? e = some i) (hz : i.zero = some z) (hsize : i.size = 1) (hby : i.bytes = bytes) (hzs : z.cells.size = 1)
    (v : Value) (n : Nat) (xs : List Value) (hown : w.ownsRow B e 1 v n xs) (a : Addr) (c : Nat) (x : Value) (hx : ∀ j u, [x][j]? = some u → w.cell? (a.add j) = some u) (h1 : x.oneCell' = true)
    (hb : ((n + 1) + (n + 1) / 4 + 192) * bytes ≤ 281474976710656) (hn : n + 1 ≤ maxLen) (hB : B ≤ w.heap.size) :
    ∃ v' w', (Builtin.append_ #[t, t] ty #[v, .slice (some a) 1 c]).run Tryz.prog w = .ok v' w' ∧ w'.ownsRow B e 1 v' (n + 1) (xs ++ [x]) ∧ w'.ownsRow B e 1 v n xs ∧ w.grownBy w' v.ownBlock := by
  obtain ⟨v', w', hr, h2, h3, _⟩ := run_append_own_wide (P := Tryz.prog) w B t ty e i z 1 bytes ht hi hz hsize hby hzs (by decide) v n xs hown a 1 c [x] rfl hx (by simpa using h1) hn hb hB
  refine ⟨v', w', hr, h2, ?_, h3⟩
  rcases hown.2 with ⟨rfl, rfl⟩ | ⟨g, cap, cur, rfl, hbg, hg, hnc, hcm, hcs, htk⟩
  · exact ⟨hown.1, Or.inl ⟨rfl, rfl⟩⟩
  · by_cases hroom : n + 1 ≤ cap
    · have hr2 := run_append_room (P := Tryz.prog) w t ty e i ht hi g n cap cur hg a 1 c [x] (by rw [hsize]; rfl) hx (by simpa using h1) hroom (by rw [hsize, hcs]; simp; omega)
      rw [hr] at hr2
      obtain ⟨_, rfl⟩ := Result.ok.inj hr2
      refine ⟨hown.1, Or.inr ⟨g, cap, _, rfl, hbg, setRow_heap w g cur _ e _ hg, hnc, hcm, ?_, ?_⟩⟩
      · rw [hsize]
        simp only [List.size_toArray, List.length_append, List.length_take, List.length_drop, Array.length_toList, List.length_singleton]
        omega
      · rw [hsize]
        rw [Nat.mul_one] at htk ⊢
        have hl : (cur.toList.take n).length = n := by
          rw [htk]
          have := hown.1
          omega
        show List.take n (cur.toList.take n ++ [x] ++ _) = xs
        rw [List.append_assoc, List.take_append_of_le_length (by omega), List.take_of_length_le (by omega), htk]
    · have hr2 := run_append_grow (P := Tryz.prog) w t ty e i z ht hi hz ⟨g, 0, none⟩ n cap xs (by rw [hsize]; exact hown.1) (hown.cells (g := g) rfl) a 1 c [x] (by rw [hsize]; rfl) hx (by omega) (by unfold maxLen at hn; omega) (growslice_fits_wide (by omega) (by rw [hby]; exact hb))
      rw [hr] at hr2
      obtain ⟨_, rfl⟩ := Result.ok.inj hr2
      exact hown.drew.alloc _

theorem step_keep {B : Nat} {wx : World} {n : Nat} {v : Value} {xs : List Value} {s0 : ByteArray} {ops : Array Oper} {o : Oper} {f : Act} {K : Act → World → Prop} {Q : Exit → Act → World → Prop} {E : Prop}
    (hgd : o.guard = none) (s t : Operand) (ho : o.op = .call { callee := .builtin .append, args := #[s, t], argTypes := #[53, 53] }) (hs : f.eval s = v)
    (hown : wx.ownsRow B 9 1 v n xs) (hB : B ≤ wx.heap.size) {M : Nat} (hM : wx.heap.size = M) (hx : f.eval t = .slice (some ⟨M, 0, none⟩) 1 1) (hb : ((n + 1) + (n + 1) / 4 + 192) * 16 ≤ 281474976710656)
    (h : ∀ v1 w1, w1.ownsRow B 9 1 v1 (n + 1) (xs ++ [.string s0]) → w1.ownsRow B 9 1 v n xs → (wx.alloc (.cells #[.string s0] 9)).grownBy w1 v.ownBlock → K (f.put o.dst v1) w1) :
    if Region.wanted o (yielded ops f.tmps) = true then Oper.wp Tryz.prog o f (wx.alloc (.cells #[.string s0] 9)) K Q else E := by
  have hw : Region.wanted o (yielded ops f.tmps) = true := by simp [Region.wanted, hgd]
  rw [if_pos hw]
  subst hM
  obtain ⟨i0, hi, hz0, hz1, hz2⟩ := Sc.info_parts Sc.infoStr
  obtain ⟨v1, w1, hr, h1, h2, h3⟩ := run_app_keep (wx.alloc (.cells #[.string s0] 9)) B 53 o.type 9 i0 _ 16 Tryz.underlying53 hi hz0 hz1 hz2 rfl v n xs (hown.alloc _) ⟨wx.heap.size, 0, none⟩ 1 (.string s0) (cell_one_new _ _ _) rfl hb (by unfold maxLen; omega) (by simp; omega)
  unfold Oper.wp execOp
  simp only [ho, resolve, invoke, builtin, Sem.run_bind, Sem.run_pure, Result.andThen_ok, List.map_toArray, List.map_cons, List.map_nil, hs, hx, hr]
  exact h v1 w1 h1 h2 h3

/-- Names that lie anywhere put behind a row of one's own, in a region that keeps its order. -/
theorem wp_ownP {B : Nat} {wx : World} {n m c : Nat} {v : Value} {xs : List Value} {L : List ByteArray} {g off : Nat} {ops : Array Oper} {rest : List Oper} {o : Oper} {f : Act} {Q : Exit → Act → World → Prop}
    (hgd : o.guard = none) (s t : Operand) (ho : o.op = .call { callee := .builtin .append, args := #[s, t], argTypes := #[53, 53] }) (hs : f.eval s = v)
    (hown : wx.ownsRow B 9 1 v n xs) (hB : B ≤ wx.heap.size) (hx : f.eval t = .slice (some ⟨g, off, none⟩) m c) (hl : L.length = m) (hnews : ∀ j u, (pcs L)[j]? = some u → wx.cell? ((⟨g, off, none⟩ : Addr).add j) = some u) (hb : ((n + m) + (n + m) / 4 + 192) * 16 ≤ 281474976710656)
    (h : ∀ v1 w1, w1.ownsRow B 9 1 v1 (n + m) (xs ++ pcs L) → wx.grownBy w1 v.ownBlock → wpList Tryz.prog ops Q rest (f.put o.dst v1) w1) :
    wpList Tryz.prog ops Q (o :: rest) f wx := by
  obtain ⟨i0, hi, hz0, hz1, hz2⟩ := Sc.info_parts Sc.infoStr
  refine wpList_append_own_wide _ hgd s t 53 ho B 9 i0 _ 1 16 Tryz.underlying53 hi hz0 hz1 hz2 rfl (by decide) v n xs hs hown ⟨g, off, none⟩ m c (pcs L) hx (by rw [pcs_length]; omega) hnews (pcs_one L) (by unfold maxLen; omega) hb hB ?_
  intro v1 w1 h1 h2 _
  exact h v1 w1 h1 h2

theorem row_none (w : World) : (w.alloc (.cells #[] 9)).ownsRow w.heap.size 9 1 (.slice (some ⟨w.heap.size, 0, none⟩) 0 0) 0 [] :=
  ⟨rfl, Or.inr ⟨w.heap.size, 0, #[], rfl, Nat.le_refl _, heap_alloc_new w _, Nat.le_refl _, Nat.zero_le _, rfl, rfl⟩⟩

theorem grown_below {B : Nat} {w w1 : World} {own : Option Nat} (hg : w.grownBy w1 own) (h : ∀ g, own = some g → B ≤ g) (hB : B ≤ w.heap.size) : Below B w w1 := ⟨hg.os, hg.tape, hg.output, hg.size, fun k hk => hg.block k (by omega) (fun e => by have := h k e.symm; omega)⟩

theorem grown_on {w w' w1 : World} {row : Option Nat} (hb : Below w.heap.size w w') (hg : w'.grownBy w1 row) : w.grownBy w1 row :=
  ⟨hg.os.trans hb.os, hg.tape.trans hb.tape, hg.output.trans hb.output, Nat.le_trans hb.size hg.size, fun k hk hn => (hg.block k (Nat.lt_of_lt_of_le hk hb.size) hn).trans (hb.block k hk)⟩
theorem boxD (w : World) (o : Obj) : Below w.heap.size w (w.drew.alloc o) := (Below.refl _ _).drew.alloc (Nat.le_refl _) _

set_option maxHeartbeats 1600000 in
theorem cloneP_any {L : List ByteArray} {v : Value} {w : World} (h : PathAt w v L) (hl : (L.length + L.length / 4 + 192) * 16 ≤ 281474976710656) : Calls Tryz.prog 42 #[v] w fun e w' => ∃ v', e = .returned v' ∧ OwnPa w' w.heap.size v' L ∧ Below w.heap.size w w' := by
  obtain ⟨ad, cap, rfl, hcp, hc⟩ := h
  cases ad with
  | none =>
    obtain rfl : L = [] := by
      rcases hc with e | ⟨_, _, q, _⟩
      · exact e
      · cases q
    rw [List.length_nil]
    have q0 : ∀ w, (binOp .eql 53 (.slice none 0 cap) (.slice none 0 0)).run Tryz.prog w = .ok (.bool true) w := fun w => run_eql_slice_nil w 53 9 none 0 cap Tryz.underlying53
    go_enter Tryz.func42, Tryz.ntmps42
    go_wp2
    go_ret
    exact ⟨_, rfl, ⟨rfl, Or.inl ⟨rfl, rfl⟩⟩, Below.refl _ _⟩
  | some a =>
    obtain ⟨g, o, sp⟩ := a
    have HNW : Hid (∀ j u, (pcs L)[j]? = some u → (w.alloc (.cells #[] 9)).cell? ((⟨g, o, sp⟩ : Addr).add j) = some u) := fun j u hj => by
      rcases hc with e | ⟨g', o', q, hs⟩
      · subst e; simp [pcs] at hj
      · cases q
        exact path_news (fun i hi => (hs i hi).below (boxB w (.cells #[] 9))) j u hj
    have HRW := hide3 (row_none w)
    have q0 : ∀ w, (binOp .eql 53 (.slice (some ⟨g, o, sp⟩) L.length cap) (.slice none 0 0)).run Tryz.prog w = .ok (.bool false) w := fun w => run_eql_slice_nil w 53 9 (some ⟨g, o, sp⟩) L.length cap Tryz.underlying53
    clear hc
    obtain ⟨i0, hi, hz0, hz1, hz2⟩ := Sc.info_parts Sc.infoStr
    go_enter Tryz.func42, Tryz.ntmps42
    go_wp2_with (at_builtin; refine wpList_append_own_wide _ rfl (.tmp 5) (.tmp 6) 53 rfl w.heap.size 9 i0 _ 1 16 Tryz.underlying53 hi hz0 hz1 hz2 rfl (by decide) _ 0 [] rfl HRW.out ⟨g, o, sp⟩ L.length cap (pcs L) rfl (by rw [pcs_length]; omega) HNW.out (pcs_one L) (by unfold maxLen; omega) (by rw [Nat.zero_add]; omega) (by simp) ?_; intro v1 w1 ho hgr _; have HO : Hid (OwnPa w1 w.heap.size v1 L) := (by have e := ho; rw [Nat.zero_add, List.nil_append] at e; exact e); have HB : Hid (Below w.heap.size w w1) := (boxB w (.cells #[] 9)).trans (grown_below (B := w.heap.size) hgr (fun g e => by cases e; exact Nat.le_refl _) (by simp)); clear ho hgr)
    go_ret
    exact ⟨_, rfl, HO.out, HB.out⟩
end Go.Proofs.YtogpkhpephhbiaaGreatDoor
