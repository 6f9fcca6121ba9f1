/- Wd1, Wd2, Wd3, laid in one text. -/
import Derived.Test.YtjpmlagofcgheaaGreatDoorMg28
namespace Go.Proofs.YtjpmlagofcgheaaGreatDoor
open Go.RowKit Go.Maps Go.WideMaps
set_option maxRecDepth 100000

/-- The environment tells this pin. -/
def ToldP (E : List Pn) (q : Pn) : Prop := ∃ r, E.find? (isN q.nm) = some r ∧ r.a = q.a ∧ r.b = q.b ∧ r.c = q.c

theorem ToldP.same {E : List Pn} {q r : Pn} (h : ToldP E q) (h' : ToldP E r) (hn : q.nm = r.nm) : q = r := by
  obtain ⟨x, e1, a1, b1, c1⟩ := h
  obtain ⟨y, e2, a2, b2, c2⟩ := h'
  rw [hn, e2] at e1
  cases e1
  cases q
  cases r
  simp_all

theorem besP_told {O : List Dp} {E : List Pn} {d : Dp} {q : Pn} (h : besP O E d = some q) : q.nm = d.nm ∧ ToldP E q := by
  unfold besP at h
  cases hf : E.find? (isN d.nm) with
  | none => rw [hf] at h; cases h
  | some r =>
    rw [hf] at h
    dsimp only at h
    split at h
    · cases h
      exact ⟨rfl, r, hf, rfl, rfl, rfl⟩
    · cases h

theorem besP_move {O : List Dp} {E E' : List Pn} {d : Dp} {q : Pn} (h : besP O E d = some q) (ht : ToldP E' q) : besP O E' d = some q := by
  have hn := (besP_told h).1
  obtain ⟨x, e1, a1, b1, c1⟩ := ht
  unfold besP at h ⊢
  rw [hn] at e1
  rw [e1]
  cases hf : E.find? (isN d.nm) with
  | none => rw [hf] at h; cases h
  | some r =>
    rw [hf] at h
    dsimp only at h ⊢
    split at h
    · rename_i hin
      cases h
      dsimp only at a1 b1 c1
      rw [a1, b1, c1, if_pos hin]
    · cases h

theorem besL_told {O : List Dp} {E : List Pn} : ∀ {ds : List Dp} {ps : List Pn}, besL O E ds = some ps → (∀ q ∈ ps, ToldP E q)
  | [], ps, h => by
    cases h
    exact fun q hq => by cases hq
  | d :: ds, ps, h => by
    cases hb : besP O E d with
    | none => rw [besL_none hb] at h; cases h
    | some p =>
      rw [besL_some hb] at h
      obtain ⟨qs, h1, rfl⟩ := Option.map_eq_some_iff.1 h
      intro q hq
      rcases List.mem_cons.1 hq with rfl | hq
      · exact (besP_told hb).2
      · exact besL_told h1 q hq

theorem besL_move {O : List Dp} {E E' : List Pn} : ∀ {ds : List Dp} {ps : List Pn}, besL O E ds = some ps → (∀ q ∈ ps, ToldP E' q) → besL O E' ds = some ps
  | [], ps, h, _ => h
  | d :: ds, ps, h, ht => by
    cases hb : besP O E d with
    | none => rw [besL_none hb] at h; cases h
    | some p =>
      rw [besL_some hb] at h
      obtain ⟨qs, h1, rfl⟩ := Option.map_eq_some_iff.1 h
      rw [besL_some (besP_move hb (ht p List.mem_cons_self)), besL_move h1 fun q hq => ht q (List.mem_cons_of_mem _ hq)]
      rfl

theorem besC_told {L : List CV} {O : List Dp} {E : List Pn} {s : ByteArray} {a b c : Int} {ps : List Pn} (h : besC L O E s a b c = some ps) : ∀ q ∈ ps, ToldP E q := by
  unfold besC at h
  cases hc : catC L s a b c with
  | none => rw [hc] at h; cases h
  | some x => rw [hc] at h; exact besL_told h

theorem besC_move {L : List CV} {O : List Dp} {E E' : List Pn} {s : ByteArray} {a b c : Int} {ps : List Pn} (h : besC L O E s a b c = some ps) (ht : ∀ q ∈ ps, ToldP E' q) : besC L O E' s a b c = some ps := by
  unfold besC at h ⊢
  cases hc : catC L s a b c with
  | none => rw [hc] at h; cases h
  | some x => rw [hc] at h; exact besL_move h ht

theorem fresh_has : ∀ {ps out : List Pn} {q : Pn}, q ∈ ps → hasPn (out ++ freshN out ps) q.nm = true
  | [], _, _, h => by cases h
  | p :: ps, out, q, h => by
    show hasPn (out ++ (if hasPn out p.nm = true then freshN out ps else p :: freshN (out ++ [p]) ps)) q.nm = true
    by_cases hh : hasPn out p.nm = true
    · rw [if_pos hh]
      rcases List.mem_cons.1 h with rfl | h
      · rw [hasPn_append, hh, Bool.true_or]
      · exact fresh_has h
    · rw [if_neg hh]
      have e : out ++ p :: freshN (out ++ [p]) ps = (out ++ [p]) ++ freshN (out ++ [p]) ps := by simp
      rw [e]
      rcases List.mem_cons.1 h with rfl | h
      · rw [hasPn_append, hasPn_iff.2 (by simp), Bool.true_or]
      · exact fresh_has h

theorem ctxF_step {L : List CV} {O : List Dp} {E : List Pn} {f : Nat} {x : Pn} {rs od out : List Pn} (h : ctxF L O E (f + 1) (x :: rs) od = some out) : ∃ ps, besC L O E x.nm x.a x.b x.c = some ps ∧ ctxF L O E f (rs ++ freshN od ps) (od ++ freshN od ps) = some out := by
  cases hb : besC L O E x.nm x.a x.b x.c with
  | none => rw [ctxF_none hb] at h; cases h
  | some ps => exact ⟨ps, rfl, by rw [← ctxF_some hb]; exact h⟩

theorem ctxF_mono {L : List CV} {O : List Dp} {E : List Pn} : ∀ {f : Nat} {rs od out : List Pn}, ctxF L O E f rs od = some out → ∀ q ∈ od, q ∈ out
  | f, [], od, out, h, q, hq => by
    rw [ctxF_nil] at h
    cases h
    exact hq
  | 0, _ :: _, od, out, h, q, hq => by cases h
  | f + 1, x :: rs, od, out, h, q, hq => by
    obtain ⟨ps, _, h2⟩ := ctxF_step h
    exact ctxF_mono h2 q (List.mem_append_left _ hq)

theorem fresh_told {L : List CV} {O : List Dp} {E : List Pn} {x : Pn} {od ps : List Pn} (ho : ∀ q ∈ od, ToldP E q) (hb : besC L O E x.nm x.a x.b x.c = some ps) : ∀ q ∈ od ++ freshN od ps, ToldP E q := fun q hq => by
  rcases List.mem_append.1 hq with hq | hq
  · exact ho q hq
  · exact besC_told hb q (freshN_mem hq)

theorem ctxF_told {L : List CV} {O : List Dp} {E : List Pn} : ∀ {f : Nat} {rs od out : List Pn}, ctxF L O E f rs od = some out → (∀ q ∈ od, ToldP E q) → ∀ q ∈ out, ToldP E q
  | f, [], od, out, h, ho => by
    rw [ctxF_nil] at h
    cases h
    exact ho
  | 0, _ :: _, od, out, h, _ => by cases h
  | f + 1, x :: rs, od, out, h, ho => by
    obtain ⟨ps, h1, h2⟩ := ctxF_step h
    exact ctxF_told h2 (fresh_told ho h1)

/-- What is asked for lies in the list, pin for pin. -/
theorem fresh_in {E : List Pn} {od ps out : List Pn} (ho : ∀ q ∈ out, ToldP E q) (hp : ∀ q ∈ ps, ToldP E q) (hm : ∀ q ∈ od ++ freshN od ps, q ∈ out) : ∀ q ∈ ps, q ∈ out := fun q hq => by
  obtain ⟨r, hr, hn⟩ := List.mem_map.1 (hasPn_iff.1 (fresh_has (out := od) hq))
  have hr' := hm r hr
  rw [(hp q hq).same (ho r hr') hn.symm]
  exact hr'

theorem ctxF_move {L : List CV} {O : List Dp} {E E' : List Pn} : ∀ {f : Nat} {rs od out : List Pn}, ctxF L O E f rs od = some out → (∀ q ∈ out, ToldP E q) → (∀ q ∈ out, ToldP E' q) → ctxF L O E' f rs od = some out
  | f, [], od, out, h, _, _ => by
    rw [ctxF_nil] at h ⊢
    exact h
  | 0, _ :: _, od, out, h, _, _ => by cases h
  | f + 1, x :: rs, od, out, h, ho, ht => by
    obtain ⟨ps, h1, h2⟩ := ctxF_step h
    have hin := fresh_in ho (besC_told h1) (ctxF_mono h2)
    rw [ctxF_some (besC_move h1 fun q hq => ht q (hin q hq))]
    exact ctxF_move h2 ho ht

/-- What a pin asks for is there, and in the list. -/
def ClosedP (L : List CV) (O : List Dp) (E out : List Pn) (x : Pn) : Prop := ∃ ps, besC L O E x.nm x.a x.b x.c = some ps ∧ ∀ q ∈ ps, q ∈ out

theorem ctxF_closed {L : List CV} {O : List Dp} {E : List Pn} : ∀ {f : Nat} {rs od out : List Pn}, ctxF L O E f rs od = some out → (∀ q ∈ out, ToldP E q) → (∀ x ∈ rs, ClosedP L O E out x) ∧ ∀ x ∈ out, x ∈ od ∨ ClosedP L O E out x
  | f, [], od, out, h, _ => by
    rw [ctxF_nil] at h
    cases h
    exact ⟨fun x hx => (by cases hx), fun x hx => Or.inl hx⟩
  | 0, _ :: _, od, out, h, _ => by cases h
  | f + 1, x :: rs, od, out, h, ho => by
    obtain ⟨ps, h1, h2⟩ := ctxF_step h
    have hin := fresh_in ho (besC_told h1) (ctxF_mono h2)
    obtain ⟨k1, k2⟩ := ctxF_closed h2 ho
    refine ⟨fun y hy => ?_, fun y hy => ?_⟩
    · rcases List.mem_cons.1 hy with rfl | hy
      · exact ⟨ps, h1, hin⟩
      · exact k1 y (List.mem_append_left _ hy)
    · rcases k2 y hy with hy | hy
      · rcases List.mem_append.1 hy with hy | hy
        · exact Or.inl hy
        · exact Or.inr (k1 y (List.mem_append_right _ hy))
      · exact Or.inr hy

/-- From pins of the list on all stays within it. -/
theorem ctxF_part {L : List CV} {O : List Dp} {E out : List Pn} (hc : ∀ x ∈ out, ClosedP L O E out x) : ∀ {f : Nat} {rs od : List Pn}, (∀ x ∈ rs, x ∈ out) → (∀ x ∈ od, x ∈ out) → (od.map Pn.nm).Nodup → rs.length + (out.length - od.length) ≤ f → ∃ part, ctxF L O E f rs od = some part ∧ ∀ x ∈ part, x ∈ out
  | f, [], od, _, ho, _, _ => ⟨od, ctxF_nil _ _ _ _ _, ho⟩
  | 0, x :: rs, od, _, _, _, hf => by simp at hf
  | f + 1, x :: rs, od, hr, ho, hn, hf => by
    obtain ⟨ps, h1, h2⟩ := hc x (hr x List.mem_cons_self)
    rw [ctxF_some h1]
    have hin : ∀ q ∈ freshN od ps, q ∈ out := fun q hq => h2 q (freshN_mem hq)
    have ho' : ∀ q ∈ od ++ freshN od ps, q ∈ out := fun q hq => by
      rcases List.mem_append.1 hq with hq | hq
      · exact ho q hq
      · exact hin q hq
    have hn' : ((od ++ freshN od ps).map Pn.nm).Nodup := freshN_nodup hn
    refine ctxF_part hc (fun q hq => ?_) ho' hn' ?_
    · rcases List.mem_append.1 hq with hq | hq
      · exact hr q (List.mem_cons_of_mem _ hq)
      · exact hin q hq
    · have hl : (od ++ freshN od ps).length ≤ out.length := by
        have e := nodup_len hn' (fun s hs => (by obtain ⟨q, hq, rfl⟩ := List.mem_map.1 hs; exact List.mem_map_of_mem (f := Pn.nm) (ho' q hq) : s ∈ out.map Pn.nm))
        rw [List.length_map, List.length_map] at e
        exact e
      simp only [List.length_append, List.length_cons] at hl hf ⊢
      omega

theorem told_self : ∀ {ts : List Pn} {q : Pn} (_ : (ts.map Pn.nm).Nodup) (more : List Pn), q ∈ ts → (ts ++ more).find? (isN q.nm) = some q
  | [], _, _, _, h => by cases h
  | t :: ts, q, hn, more, h => by
    rw [List.map_cons, List.nodup_cons] at hn
    rw [List.cons_append, List.find?_cons]
    rcases List.mem_cons.1 h with rfl | h
    · rw [show isN q.nm q = true from decide_eq_true rfl]
    · have hne : t.nm ≠ q.nm := fun e => hn.1 (e ▸ List.mem_map_of_mem h)
      rw [show isN q.nm t = false from decide_eq_false hne]
      exact told_self hn.2 more h

/-- A context that stands, in an environment that begins with it. -/
theorem ctx_inside {L : List CV} {O : List Dp} {E ts out : List Pn} {p : Pn} (h : ctxC L O E p = some out) (ht : ts.Perm out) (hg : GoodC L out) (more : List Pn) : ctxC L O (ts ++ more) p = some out := by
  have hn : (ts.map Pn.nm).Nodup := (ht.map Pn.nm).nodup_iff.2 hg.1
  exact ctxF_move h (ctxF_told h fun q hq => (by cases hq)) fun q hq => ⟨q, told_self hn more (ht.mem_iff.2 hq), rfl, rfl, rfl⟩

/-- The context of each of its pins stands in it, and is a part of it. -/
theorem ctx_part {L : List CV} {O : List Dp} {E ts out : List Pn} {p q : Pn} (h : ctxC L O E p = some out) (ht : ts.Perm out) (hg : GoodC L out) (hl : out.length ≤ 2048) (hq : q ∈ ts) : ∃ part, ctxC L O ts q = some part ∧ ∀ x ∈ part, x ∈ ts := by
  have h' := ctx_inside h ht hg []
  rw [List.append_nil] at h'
  have hto := ctxF_told h' fun q hq => (by cases hq)
  have hc := (ctxF_closed h' hto).2
  obtain ⟨part, h1, h2⟩ := ctxF_part (L := L) (O := O) (E := ts) (out := out) (fun x hx => (hc x hx).resolve_left (fun k => by cases k)) (f := 3000) (rs := [q]) (od := []) (fun x hx => by
    rw [List.mem_singleton] at hx
    rw [hx]
    exact ht.mem_iff.1 hq) (fun x hx => by cases hx) List.nodup_nil (by simp only [List.length_singleton, List.length_nil]; omega)
  exact ⟨part, h1, fun x hx => ht.mem_iff.2 (h2 x hx)⟩
end Go.Proofs.YtjpmlagofcgheaaGreatDoor
namespace Go.Proofs.YtjpmlagofcgheaaGreatDoor
open Go.RowKit Go.Maps Go.WideMaps
set_option maxRecDepth 100000

theorem own_pins {w : World} {B : Nat} {v : Value} {ps : List Pn} (h : OwnPn w B v ps) : PinsAt w v ps := by
  rcases ps with _ | ⟨p, ps⟩
  · obtain ⟨ad, cap, rfl⟩ := own_len h
    exact ⟨ad, cap, rfl, Nat.zero_le _, Or.inl rfl⟩
  · obtain ⟨g, cap, _, hg, rfl, hc, _⟩ := pn_cells h 0 (by simp)
    refine ⟨_, cap, rfl, hc, Or.inr ⟨g, 0, rfl, hg, fun i hi => ?_⟩⟩
    obtain ⟨g', cap', _, _, hv, _, hp⟩ := pn_cells h i hi
    injection hv with e1 e2 e3
    injection e1 with e1
    injection e1 with e1
    subst e1
    rw [Nat.zero_add]
    exact hp

theorem good_ts {L : List CV} {ts out : List Pn} (hp : ts.Perm out) (hg : GoodC L out) : (∀ q ∈ ts, q.nm.size ≤ 9223372036854775807) ∧ (∀ q ∈ ts, I64 q.a ∧ I64 q.b ∧ I64 q.c) ∧ (∀ q ∈ ts, KeyOk q.nm q.a q.b q.c) := by
  have k : ∀ q ∈ ts, KeyOk q.nm q.a q.b q.c := fun q hq => (hg.2 q (hp.mem_iff.1 hq)).2
  exact ⟨fun q hq => (by have := (k q hq).1; unfold maxLen at this; exact this), fun q hq => (k q hq).2, k⟩

/-- A context's list rises. -/
theorem sorted_n {ts od : List Pn} (h1 : ts.Perm od) (h2 : ts.Pairwise fun x y => ltP y x = false) (hn : (od.map Pn.nm).Nodup) : SortedN ts := by
  have hne : ts.Pairwise fun x y => x.nm ≠ y.nm := by
    have e : (ts.map Pn.nm).Nodup := (h1.map Pn.nm).nodup_iff.2 hn
    rw [List.nodup_iff_pairwise_ne, List.pairwise_map] at e
    exact e
  exact (h2.and hne).imp fun {x y} q => by
    refine ltS_total ?_ (fun e => q.2 e.symm)
    rw [ltS_before]
    exact q.1

/-- Two sorted lists of one and the same context are the same. -/
theorem sorted_two {ts so od : List Pn} (h1 : ts.Perm od) (h2 : ts.Pairwise fun x y => ltP y x = false) (hn : (od.map Pn.nm).Nodup) (h3 : so.Perm od) (h4 : so.Pairwise fun x y => ltP y x = false) : ts = so := by
  exact sorted_same h1 h2 hn h3 (sorted_n h3 h4 hn)
end Go.Proofs.YtjpmlagofcgheaaGreatDoor
namespace Go.Proofs.YtjpmlagofcgheaaGreatDoor
open Go.RowKit Go.Maps Go.WideMaps
set_option maxRecDepth 100000

theorem encPn_len (l : List Pn) : (l.flatMap encPn).length = l.length * 4 := by
  induction l with
  | nil => rfl
  | cons x l ih => rw [List.flatMap_cons, List.length_append, ih, List.length_cons]; show 4 + _ = _; omega

theorem encPnJ : ∀ (l : List Pn) (j : Nat) (u : Value), (l.flatMap encPn)[j]? = some u → ∃ h : j / 4 < l.length, (encPn l[j / 4])[j % 4]? = some u
  | [], j, u, h => by simp at h
  | x :: l, j, u, h => by
    rw [List.flatMap_cons] at h
    by_cases hj : j < 4
    · rw [List.getElem?_append_left (by exact hj)] at h
      have e1 : j / 4 = 0 := by omega
      have e2 : j % 4 = j := by omega
      refine ⟨by rw [e1]; simp, ?_⟩
      rw [e2]
      simp only [e1, List.getElem_cons_zero]
      exact h
    · rw [List.getElem?_append_right (by show 4 ≤ j; omega)] at h
      obtain ⟨h1, h2⟩ := encPnJ l (j - 4) u h
      have e1 : j / 4 = (j - 4) / 4 + 1 := by omega
      have e2 : j % 4 = (j - 4) % 4 := by omega
      refine ⟨by rw [e1]; simpa using h1, ?_⟩
      rw [e2]
      simp only [e1, List.getElem_cons_succ]
      exact h2

theorem pins_news {w : World} {g o : Nat} {L : List Pn} (h : ∀ i (h : i < L.length), PnIn w g (o + i * 4) L[i]) : ∀ j u, (L.flatMap encPn)[j]? = some u → w.cell? ((⟨g, o, none⟩ : Addr).add j) = some u := fun j u hj => by
  obtain ⟨h1, h2⟩ := encPnJ L j u hj
  have ad : (⟨g, o, none⟩ : Addr).add j = ⟨g, o + j, none⟩ := by unfold Addr.add; split <;> simp_all
  rw [ad]
  obtain ⟨⟨c0, c1, c2, c3⟩, _⟩ := h _ h1
  have ej : o + j = o + j / 4 * 4 + j % 4 := by omega
  rw [ej]
  have hr : j % 4 < 4 := Nat.mod_lt _ (by decide)
  generalize j % 4 = r at *
  match r, hr with
  | 0, _ => rw [← h2]; exact c0
  | 1, _ => rw [← h2]; exact c1
  | 2, _ => rw [← h2]; exact c2
  | 3, _ => rw [← h2]; exact c3

/-- Pins that lie anywhere, put behind pins of one's own, in a region that keeps its order. -/
theorem wp_ownPins {B : Nat} {wx : World} {slt : TypeId} {v x : Value} {ps qs : List Pn} {ops : Array Oper} {rest : List Oper} {o : Oper} {f : Act} {Q : Exit → Act → World → Prop}
    (hund : Tryz.prog.underlying slt = some (.slice 58))
    (hgd : o.guard = none) (s t : Operand) (ho : o.op = .call { callee := .builtin .append, args := #[s, t], argTypes := #[slt, slt] }) (hs : f.eval s = v)
    (hown : OwnPn wx B v ps) (hB : B ≤ wx.heap.size) (hx : f.eval t = x) (hxo : PinsAt wx x qs) (hlen : ps.length + qs.length ≤ 1000000000)
    (h : ∀ v1 w1, OwnPn w1 B v1 (ps ++ qs) → wx.grownBy w1 v.ownBlock → (v1.ownBlock = v.ownBlock ∨ v1.ownBlock = some wx.heap.size) → wpList Tryz.prog ops Q rest (f.put o.dst v1) w1) :
    wpList Tryz.prog ops Q (o :: rest) f wx := by
  obtain ⟨ad, c2, rfl, hc2, hq⟩ := hxo
  rcases ad with _ | a
  · obtain rfl : qs = [] := by
      rcases hq with e | ⟨_, _, e, _⟩
      · exact e
      · cases e
    obtain ⟨i0, hi, _⟩ := Sc.info_parts infoPn
    have h1 := h v wx (by rw [List.append_nil]; exact hown) ⟨rfl, rfl, rfl, Nat.le_refl _, fun _ _ _ => rfl⟩ (Or.inl rfl)
    refine wpList_plain hgd fun K hK => ?_
    obtain ⟨base, cap, hv, hnc⟩ : ∃ base cap, v = .slice base ps.length cap ∧ ps.length ≤ cap := by
      rcases hown.2 with ⟨rfl, h0⟩ | ⟨g, cap, cur, rfl, _, _, hc, _⟩
      · exact ⟨none, 0, by rw [h0], by omega⟩
      · exact ⟨_, cap, rfl, hc⟩
    subst hv
    have hr : (Builtin.append_ #[slt, slt] o.type #[.slice base ps.length cap, .slice none 0 c2]).run Tryz.prog wx = .ok (.slice base ps.length cap) wx := by
      cases base <;> simp [Builtin.append_, run_underlying hund, sizeOf, typeInfo, hi, Builtin.lenOf, hnc, Builtin.firstCells, loadCells, storeCells]
    unfold Oper.wp execOp
    simp only [ho, resolve, invoke, builtin, Sem.run_bind, Sem.run_pure, Result.andThen_ok, List.map_toArray, List.map_cons, List.map_nil, hs, hx, List.length_nil, hr]
    exact hK _ _ h1
  · refine wp_ownN infoPn hund rfl (by decide) (by decide) hgd s t ho hs hown hB hx (encPn_len qs) ?_ (encPn_one qs) hlen ?_
    · rcases hq with rfl | ⟨g, off, e, _, hp⟩
      · intro j u hj
        cases hj
      · cases e
        exact pins_news hp
    · intro v1 w1 h1 h2 h3
      refine h v1 w1 ?_ h2 h3
      unfold OwnPn
      rw [List.length_append, List.flatMap_append]
      exact h1
end Go.Proofs.YtjpmlagofcgheaaGreatDoor
