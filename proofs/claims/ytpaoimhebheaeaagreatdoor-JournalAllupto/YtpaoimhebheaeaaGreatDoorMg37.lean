/- Jq6, Jl10, laid in one text. -/
import Derived.Test.YtpaoimhebheaeaaGreatDoorMg36
namespace Go.Proofs.YtpaoimhebheaeaaGreatDoor
open Go.RowKit Go.Maps Go.WideMaps Go.WideElems Dk
set_option maxRecDepth 100000

theorem same_path {L : List Fl} (h : Apart L) {x y : Fl} (hx : x ∈ L) (hy : y ∈ L) (e : x.1 = y.1) : x = y := by
  obtain ⟨i, hi, rfl⟩ := List.getElem_of_mem hx
  obtain ⟨j, hj, rfl⟩ := List.getElem_of_mem hy
  have h2 : L.Pairwise fun x y => x.1 ≠ y.1 := h
  rcases Nat.lt_trichotomy i j with q | q | q
  · exact absurd e (List.pairwise_iff_getElem.1 h2 i j hi hj q)
  · subst q; rfl
  · exact absurd e.symm (List.pairwise_iff_getElem.1 h2 j i hj hi q)
theorem ord_kd {a b : De} (h : ordD a b) : a.kd ≤ b.kd := by
  rcases h with h | ⟨h, _⟩ <;> omega
theorem ord_ne {a b : De} (h : ordD a b) (hk : a.kd = b.kd) : a.pa ≠ b.pa := by
  rcases h with h | ⟨_, h1, h2⟩
  · omega
  · intro e
    by_cases q : a.kd ≤ 2
    · exact bb_irr (h1 q) e.symm
    · exact bb_irr (h2 (by omega)) e
theorem pair_deD {L M : List Fl} (hL : Hang L) (hM : Hang M) {a d : De} (ha : a ∈ deD L M) (hd : d ∈ deD L M) (ho : ordD a d) (hp : a.pa = d.pa) : (a.kd = 1 ∧ d.kd = 3) ∨ (a.kd = 2 ∧ d.kd = 4) := by
  have hk := ord_kd ho
  have hne : a.kd ≠ d.kd := fun e => ord_ne ho e hp
  rcases mem_deD.1 ha with ⟨x, hx, wx, rfl⟩ | ⟨x, hx, wx, rfl⟩ | ⟨x, hx, wx, rfl⟩ | ⟨x, hx, wx, rfl⟩ <;> rcases mem_deD.1 hd with ⟨y, hy, wy, rfl⟩ | ⟨y, hy, wy, rfl⟩ | ⟨y, hy, wy, rfl⟩ | ⟨y, hy, wy, rfl⟩
  · exact absurd rfl hne
  · exfalso
    have e := same_path hL.apart hx hy hp
    have h1 := ((wU_iff hM.apart).1 wx).1
    have h2 := ((wR_iff hM.apart).1 wy).1
    rw [e, h2] at h1
    cases h1
  · exact Or.inl ⟨rfl, rfl⟩
  · exfalso
    have h1 := ((wU_iff hM.apart).1 wx).2 y hy hp.symm
    have h2 := ((wP_iff hL.apart).1 wy).1
    rw [h2] at h1
    cases h1
  · exact absurd (show (2 : Int) ≤ 1 from hk) (by decide)
  · exact absurd rfl hne
  · exfalso
    have h1 := ((wR_iff hM.apart).1 wx).2 y hy hp.symm
    have h2 : y.2.1 = true := by unfold wM at wy; rw [Bool.and_eq_true] at wy; exact wy.1
    rw [h2] at h1
    cases h1
  · exact Or.inr ⟨rfl, rfl⟩
  · exact absurd (show (3 : Int) ≤ 1 from hk) (by decide)
  · exact absurd (show (3 : Int) ≤ 2 from hk) (by decide)
  · exact absurd rfl hne
  · exfalso
    have e := same_path hM.apart hx hy hp
    have h1 : x.2.1 = true := by unfold wM at wx; rw [Bool.and_eq_true] at wx; exact wx.1
    have h2 := ((wP_iff hL.apart).1 wy).1
    rw [e, h2] at h1
    cases h1
  · exact absurd (show (4 : Int) ≤ 1 from hk) (by decide)
  · exact absurd (show (4 : Int) ≤ 2 from hk) (by decide)
  · exact absurd (show (4 : Int) ≤ 3 from hk) (by decide)
  · exact absurd rfl hne
theorem short_pair {α : Type} {R : α → α → Prop} : ∀ {l : List α}, l.Pairwise R → (∀ a ∈ l, ∀ b ∈ l, ¬ R a b) → l.length ≤ 1
  | [], _, _ => by simp
  | [_], _, _ => by simp
  | a :: b :: r, h, hn => by
    exfalso
    have h1 := List.pairwise_cons.1 h
    exact hn a List.mem_cons_self b (List.mem_cons_of_mem _ List.mem_cons_self) (h1.1 b List.mem_cons_self)
theorem plan_deD {L M : List Fl} (hL : Hang L) (hM : Hang M) (jL : ∀ y ∈ L, jB y.1 = false) (jM : ∀ y ∈ M, jB y.1 = false) : Plan (deD L M) := by
  intro i hi
  have hpw := ord_deD hL.rise hM.rise
  have hd : (deD L M).take i ++ (deD L M)[i] :: (deD L M).drop (i + 1) = deD L M := by rw [← List.drop_eq_getElem_cons hi, List.take_append_drop]
  have hin : (deD L M)[i] ∈ deD L M := List.getElem_mem hi
  have hpre : ∀ a ∈ (deD L M).take i, ordD a (deD L M)[i] := (st_ord hL hM hd).1
  have hsub : ∀ a ∈ (deD L M).take i, a ∈ deD L M := fun a ha => List.mem_of_mem_take ha
  have hpt := hpw.sublist (List.take_sublist i (deD L M))
  generalize (deD L M).take i = pre at *
  generalize (deD L M)[i] = d at *
  have hk := kinds1 hin
  have he : (ByteArray.empty.toList == ([] : List UInt8)) = true := by decide +kernel
  have hdata : (d.kd == 4 || d.da.toList == []) = true ∧ (okPath d.pa && !jB d.pa) = true := by
    rcases mem_deD.1 hin with ⟨x, hx, _, rfl⟩ | ⟨x, hx, _, rfl⟩ | ⟨x, hx, _, rfl⟩ | ⟨x, hx, _, rfl⟩
    · exact ⟨by show (((1 : Int) == 4) || ByteArray.empty.toList == []) = true; rw [he, Bool.or_true], by show (okPath x.1 && !jB x.1) = true; rw [hL.ok x hx, jL x hx]; rfl⟩
    · exact ⟨by show (((2 : Int) == 4) || ByteArray.empty.toList == []) = true; rw [he, Bool.or_true], by show (okPath x.1 && !jB x.1) = true; rw [hL.ok x hx, jL x hx]; rfl⟩
    · exact ⟨by show (((3 : Int) == 4) || ByteArray.empty.toList == []) = true; rw [he, Bool.or_true], by show (okPath x.1 && !jB x.1) = true; rw [hM.ok x hx, jM x hx]; rfl⟩
    · exact ⟨rfl, by show (okPath x.1 && !jB x.1) = true; rw [hM.ok x hx, jM x hx]; rfl⟩
  have hlast : (pre.getLast?.all fun q => decide (q.kd ≤ d.kd)) = true := by
    cases e : pre.getLast? with
    | none => rfl
    | some q => exact decide_eq_true (ord_kd (hpre q (List.mem_of_getLast? e)))
  have hat : ∀ a, atP d.pa a = true ↔ a.pa = d.pa := fun a => by
    unfold atP
    rw [beq_iff_eq, toList_data, toList_data]
    exact ⟨fun e => ByteArray.ext (Array.toList_inj.1 e), fun e => by rw [e]⟩
  have hall : (pre.all fun a => !atP d.pa a || pairB a.kd d.kd) = true := List.all_eq_true.2 fun a ha => by
    cases e : atP d.pa a
    · rfl
    · rcases pair_deD hL hM (hsub a ha) hin (hpre a ha) ((hat a).1 e) with ⟨q1, q2⟩ | ⟨q1, q2⟩
      · rw [q1, q2]; rfl
      · rw [q1, q2]; rfl
  have hcnt : pre.countP (atP d.pa) ≤ 1 := by
    rw [List.countP_eq_length_filter]
    refine short_pair (R := ordD) (hpt.sublist List.filter_sublist) fun a ha b hb ho => ?_
    obtain ⟨a1, a2⟩ := List.mem_filter.1 ha
    obtain ⟨b1, b2⟩ := List.mem_filter.1 hb
    have ea := (hat a).1 a2
    have eb := (hat b).1 b2
    have pa := pair_deD hL hM (hsub a a1) hin (hpre a a1) ea
    have pb := pair_deD hL hM (hsub b b1) hin (hpre b b1) eb
    exact ord_ne ho (by omega) (ea.trans eb.symm)
  unfold okDe
  rw [hlast, hdata.1, hdata.2, hall, decide_eq_true hcnt, decide_eq_true (show 1 ≤ d.kd by omega), decide_eq_true (show d.kd ≤ 4 by omega)]
  rfl
/-- Delta's deeds, done one behind the other. -/
theorem delta_run {fs gs : List Fl} (h1 : OkJ fs) (h2 : OkJ gs) : ∀ i, i ≤ (deD (filesD (loadD fs)) (filesD (loadD gs))).length → canA ((deD (filesD (loadD fs)) (filesD (loadD gs))).take i) ⟨loadD fs, [], -1⟩ = true ∧ ∀ y, y ∈ filesD (runA ((deD (filesD (loadD fs)) (filesD (loadD gs))).take i) ⟨loadD fs, [], -1⟩).2.D ↔ StD (filesD (loadD fs)) ((deD (filesD (loadD fs)) (filesD (loadD gs))).take i) y := by
  have hL := hang_of h1
  have hM := hang_of h2
  have hP1 := loads_plain h1.1
  have hf0 : Fine ⟨loadD fs, [], -1⟩ := ⟨hP1, load_sound h1.1, by simp, by simp⟩
  generalize filesD (loadD gs) = M at *
  generalize hLL : filesD (loadD fs) = L at *
  intro i
  induction i with
  | zero =>
    intro _
    refine ⟨rfl, fun y => ?_⟩
    show y ∈ filesD (loadD fs) ↔ _
    rw [hLL]
    constructor
    · intro q; exact Or.inl ⟨q, fun d hd => by cases hd⟩
    · rintro (q | ⟨d, hd, _⟩ | ⟨d, hd, _⟩)
      · exact q.1
      · cases hd
      · cases hd
  | succ i ih =>
    intro hi
    have hi2 : i < (deD L M).length := by omega
    obtain ⟨hc, hm⟩ := ih (by omega)
    have hd : (deD L M).take i ++ (deD L M)[i] :: (deD L M).drop (i + 1) = deD L M := by rw [← List.drop_eq_getElem_cons hi2, List.take_append_drop]
    have hfx := (run_fine ((deD L M).take i) hf0).1
    have hl : (runA ((deD L M).take i) ⟨loadD fs, [], -1⟩).2.left = -1 := (tch_run _ _).up rfl
    have hst := canA_step hi2 hc
    have hnx := runA_next hi2 (canA_run _ hc)
    have htk : (deD L M).take (i + 1) = (deD L M).take i ++ [(deD L M)[i]] := List.take_succ_eq_append_getElem hi2
    have hk := kinds1 (List.getElem_mem hi2)
    generalize hx : (runA ((deD L M).take i) ⟨loadD fs, [], -1⟩).2 = x at *
    have ex : x = ⟨x.D, x.rs, -1⟩ := by rw [← hl]
    obtain ⟨hok, k1, k2, D', r, hdo, hP', hm'⟩ := does_step hL hM hd hfx.pl hm x.rs
    rw [← ex] at hdo
    have hxx : OkX (deD L M)[i] := ⟨by omega, by omega, hok⟩
    have key : findsB x.D (deD L M)[i] = true ∧ (doA x (deD L M)[i]).1 = 0 ∧ (doA x (deD L M)[i]).2.D = D' := by
      generalize (deD L M)[i] = d at *
      obtain ⟨k, p, t⟩ := d
      simp only at hk k1 k2 hok
      unfold doesD at hdo
      simp only at hdo
      rcases hk with rfl | rfl | rfl | rfl
      · have hk1 : (kindD x.D p == 1) = true := beq_iff_eq.2 (k1 rfl)
        rw [if_pos (by decide)] at hdo
        rw [do_1 hk1, hdo]
        refine ⟨?_, rfl, rfl⟩
        unfold findsB
        simp [bne, hk1]
      · have hk1 : (kindD x.D p == 2) = true := beq_iff_eq.2 (k2 rfl)
        rw [if_pos (by decide)] at hdo
        rw [do_2 hk1, hdo]
        refine ⟨?_, rfl, rfl⟩
        unfold findsB
        simp [bne, hk1]
      · rw [if_neg (by decide), if_pos rfl] at hdo
        have hk1 : (kindD x.D p == 0) = true := beq_iff_eq.2 (mk_done hfx (by rw [hdo])).2.1
        rw [do_3 hk1, hdo]
        refine ⟨?_, rfl, rfl⟩
        unfold findsB
        simp [bne, hk1]
      · rw [if_neg (by decide), if_neg (by decide)] at hdo
        have hD' : D' = appD x.D ⟨4, p, t⟩ := by
          have := (wt_done hfx (s := p) (t := t) (by rw [hdo])).2.1
          rw [hdo] at this
          have := congrArg Ab.D this
          exact this
        have h0 : (doA x ⟨4, p, t⟩).1 = 0 := by
          rw [do_4]
          split
          · rw [hdo]
          · rfl
        have hfi : findsB x.D ⟨4, p, t⟩ = true := rfl
        refine ⟨hfi, h0, ?_⟩
        rw [hD']
        have hf3 : Fine ⟨x.D, x.rs, -1⟩ := ex ▸ hfx
        have h00 : (doA ⟨x.D, x.rs, -1⟩ ⟨4, p, t⟩).1 = 0 := by rw [← ex]; exact h0
        have := do_app hf3 hxx hfi h00
        rw [← ex] at this
        exact this
    refine ⟨by rw [hst, key.1, key.2.1]; rfl, fun y => ?_⟩
    rw [hnx, key.2.2, htk]
    exact hm' y
theorem run_delta {fs gs : List Fl} (h1 : OkJ fs) (h2 : OkJ gs) : Run (loadD fs) (deD (filesD (loadD fs)) (filesD (loadD gs))) ∧ En (loadD fs) (deD (filesD (loadD fs)) (filesD (loadD gs))) (deD (filesD (loadD fs)) (filesD (loadD gs))).length = loadD gs := by
  have hP1 := loads_plain h1.1
  have hP2 := loads_plain h2.1
  have j1 : ∀ y ∈ filesD (loadD fs), jB y.1 = false := fun y hy => h1.2 y ((mem_files_load (loads_apart h1.1.1) hP1.good y).1 hy)
  have j2 : ∀ y ∈ filesD (loadD gs), jB y.1 = false := fun y hy => h2.2 y ((mem_files_load (loads_apart h2.1.1) hP2.good y).1 hy)
  have hr := delta_run h1 h2 _ (Nat.le_refl _)
  rw [List.take_length] at hr
  have hf0 : Fine ⟨loadD fs, [], -1⟩ := ⟨hP1, load_sound h1.1, by simp, by simp⟩
  refine ⟨⟨plan_deD (hang_of h1) (hang_of h2) j1 j2, hf0, j1, hr.1⟩, ?_⟩
  have hfe := (run_fine (deD (filesD (loadD fs)) (filesD (loadD gs))) hf0).1
  have he := does_end (hang_of h1) (hang_of h2) hfe.pl hr.2
  unfold En
  rw [List.take_length]
  exact plain_eq hfe.pl hP2 fun y => by rw [he]
theorem ov_refl {D : DataW Unit} (h : Fine ⟨D, [], -1⟩) : Ov [] D D := ⟨h.pl, h.so, fun _ => ⟨Or.inl, fun q => q.elim id (fun q => by cases q)⟩⟩
theorem mk_ok {x : Ab} (hl : x.left ≠ 0) {s : ByteArray} (hok : okPath s = true) (hp : parentD x.D s = 0) (hk : kindD x.D s = 0) : (mkdirD x s).1 = 0 := by
  have hw : writeD x.left [s] = 0 := by
    rw [wr_left hl]
    unfold writeD
    simp [hok]
  unfold mkdirD
  rw [hw, hp, hk]
  rfl
theorem wt_ok {x : Ab} (hl : x.left ≠ 0) {s t : ByteArray} (hok : okPath s = true) (hp : parentD x.D s = 0) (hk : kindD x.D s ≠ 2) : (writeFD x s t).1 = 0 := by
  have hw : writeD x.left [s] = 0 := by
    rw [wr_left hl]
    unfold writeD
    simp [hok]
  have hf : fileD x.D s = 0 := by
    unfold fileD
    rw [hp, if_neg (by decide), if_neg (by rw [beq_iff_eq]; exact hk)]
  unfold writeFD
  rw [hw, hf]
  rfl
theorem ren_ok {x : Ab} (hl : x.left ≠ 0) {s t : ByteArray} (ho1 : okPath s = true) (ho2 : okPath t = true) (hr : readE x.D s = 0) (hp : parentD x.D t = 0) (hk : kindD x.D t ≠ 2) : (renameD x s t).1 = 0 := by
  have hw : writeD x.left [s, t] = 0 := by
    rw [wr_left hl]
    unfold writeD
    simp [ho1, ho2]
  have hf : fileD x.D t = 0 := by
    unfold fileD
    rw [hp, if_neg (by decide), if_neg (by rw [beq_iff_eq]; exact hk)]
  unfold renameD
  rw [hw, hr, hf]
  rfl
theorem note_len {D : DataW Unit} {rs : List (Int × ByteArray × ByteArray)} {l : Int} {r : Int × ByteArray × ByteArray} : (noteAb { D := D, rs := rs, left := l } r).rs.length = rs.length + 1 := by simp [noteAb]
/-- What a Commit of a plan that can be done comes to. -/
theorem commit_ph {D0 : DataW Unit} {l : List De} (h : Run D0 l) {lz : Int} (h1 : -1 ≤ lz) (h2 : lz ≤ 9223372036854775807) : ((commitA l ⟨D0, [], lz⟩).1 = 0 ∨ (commitA l ⟨D0, [], lz⟩).1 = 15) ∧ (((commitA l ⟨D0, [], lz⟩).2.rs.length < 3 ∧ ((commitA l ⟨D0, [], lz⟩).1 = 0 → l.length = 0) ∧ PhO D0 (textD l) (commitA l ⟨D0, [], lz⟩).2.D) ∨ (3 ≤ (commitA l ⟨D0, [], lz⟩).2.rs.length ∧ PhN D0 l (textD l) (commitA l ⟨D0, [], lz⟩).2.D)) := by
  have hf : Fine ⟨D0, [], lz⟩ := ⟨h.fine.pl, h.fine.so, h1, h2⟩
  have hov := ov_refl h.fine
  have hj : kindD D0 jn = 0 := kind_noJ hov h.noj jB_jn (root_not jn_ok) fun y hy => by cases hy
  by_cases hl : lz = 0
  · have e : commitA l ⟨D0, [], lz⟩ = (15, ⟨D0, [], lz⟩) := by unfold commitA; rw [if_pos (beq_iff_eq.2 hl)]
    rw [e]
    exact ⟨Or.inr rfl, Or.inl ⟨by show (0 : Nat) < 3; decide, (fun q => by cases q), Or.inl hov⟩⟩
  · have hc : canR l ⟨D0, [], lz⟩ = true := by rw [canR_yes h.plan]; exact h.can
    have e : commitA l ⟨D0, [], lz⟩ = if (l.length == 0) = true then (0, ⟨D0, [], lz⟩) else writA l ⟨D0, [], lz⟩ := by
      unfold commitA
      rw [if_neg (by rw [beq_iff_eq]; exact hl), if_neg (by rw [show kindD (⟨D0, [], lz⟩ : Ab).D jn = 0 from hj]; decide), if_neg (by rw [hc]; decide)]
    rw [e]
    by_cases hn : l.length = 0
    · rw [if_pos (beq_iff_eq.2 hn)]
      exact ⟨Or.inl rfl, Or.inl ⟨by show (0 : Nat) < 3; decide, (fun _ => hn), Or.inl hov⟩⟩
    · rw [if_neg (by rw [beq_iff_eq]; exact hn), writ_wr3]
      clear e hc
      obtain ⟨W3, hW3⟩ : ∃ q, q = wr3 l ⟨D0, [], lz⟩ := ⟨_, rfl⟩
      rw [← hW3]
      have hz0 : ¬ ((0 : Int) != 0) = true := by decide
      have hz15 : ((15 : Int) != 0) = true := by decide
      unfold wr3 at hW3
      have hroot : parentD D0 jn = 0 := by
        unfold parentD kindD
        rw [if_pos jn_par]
        rfl
      have m1 : (mkdirD ⟨D0, [], lz⟩ jn).1 = 0 := mk_ok hl jn_ok hroot hj
      obtain ⟨_, _, m2, m3⟩ := mk_done hf m1
      have f1 := (mk_fine hf jn).1
      have o1 : Ov [jd] D0 (mkdirD ⟨D0, [], lz⟩ jn).2.D := by
        refine ⟨f1.pl, f1.so, fun y => ?_⟩
        rw [m2]
        show y ∈ filesD (D0.put (keyD jn) (itemD true ByteArray.empty)) ↔ _
        rw [memP_put h.fine.pl _ _ jn_ok]
        constructor
        · rintro (q | q)
          · exact Or.inr (List.mem_singleton.2 q)
          · exact Or.inl q.1
        · rintro (q | q)
          · exact Or.inr ⟨q, fun e => by have := h.noj y q; rw [e, jB_jn] at this; cases this⟩
          · exact Or.inl (List.mem_singleton.1 q)
      have r1 : (mkdirD ⟨D0, [], lz⟩ jn).2.rs.length = 1 := by rw [m2, note_len]; rfl
      rw [m1, if_neg hz0] at hW3
      generalize (mkdirD ⟨D0, [], lz⟩ jn).2 = y1 at *
      have kp1 : kindD y1.D pN = 0 := kind_noJ o1 h.noj jB_pN (root_not pN_ok) fun y hy => by rw [List.mem_singleton.1 hy]; exact jn_pN
      have pp1 : parentD y1.D pN = 0 := by
        unfold parentD
        rw [pN_par, m3]
        rfl
      by_cases l1 : y1.left = 0
      · rw [wt_down l1, if_pos hz15] at hW3
        rw [hW3, if_pos hz15]
        exact ⟨Or.inr rfl, Or.inl ⟨by show y1.rs.length < 3; omega, (fun q => by cases q), Or.inr (Or.inl o1)⟩⟩
      · have w1 : (writeFD y1 pN (textD l)).1 = 0 := wt_ok l1 pN_ok pp1 (by rw [kp1]; decide)
        obtain ⟨_, w2, w3, w4⟩ := wt_done f1 w1
        have f2 := (wt_fine f1 pN (textD l)).1
        have o2 : Ov [jd, fN (textD l)] D0 (writeFD y1 pN (textD l)).2.D := by
          refine ⟨f2.pl, f2.so, fun y => ?_⟩
          rw [w2]
          show y ∈ filesD (y1.D.put (keyD pN) (itemD false (textD l))) ↔ _
          rw [memP_put f1.pl _ _ pN_ok, o1.mem]
          constructor
          · rintro (q | ⟨q | q, _⟩)
            · exact Or.inr (List.mem_cons_of_mem _ (List.mem_singleton.2 q))
            · exact Or.inl q
            · exact Or.inr (List.mem_cons.2 (Or.inl (List.mem_singleton.1 q)))
          · rintro (q | q)
            · exact Or.inr ⟨Or.inl q, fun e => by have := h.noj y q; rw [e, jB_pN] at this; cases this⟩
            · rcases List.mem_cons.1 q with q | q
              · exact Or.inr ⟨Or.inr (List.mem_singleton.2 q), by rw [q]; exact jn_pN⟩
              · exact Or.inl (List.mem_singleton.1 q)
        have r2 : (writeFD y1 pN (textD l)).2.rs.length = 2 := by rw [w2, note_len, r1]
        have k2 : kindD (writeFD y1 pN (textD l)).2.D jn = 2 := ((tch_wt y1 pN (textD l)).kind jn jn_pN).trans m3
        rw [w1, if_neg hz0] at hW3
        generalize (writeFD y1 pN (textD l)).2 = y2 at *
        by_cases l2 : y2.left = 0
        · rw [ren_down l2] at hW3
          rw [hW3, if_pos hz15]
          exact ⟨Or.inr rfl, Or.inl ⟨by show y2.rs.length < 3; omega, (fun q => by cases q), Or.inr (Or.inr o2)⟩⟩
        · have hpb : pathB pN = true := by decide +kernel
          have re2 : readE y2.D pN = 0 := by
            unfold readE
            rw [if_pos hpb, w3]
            rfl
          have kp2 : kindD y2.D pP = 0 := kind_noJ o2 h.noj jB_pP (root_not pP_ok) fun y hy => by
            rcases List.mem_cons.1 hy with q | q
            · rw [q]; exact jn_pP
            · rw [List.mem_singleton.1 q]; exact pN_pP
          have pp2 : parentD y2.D pP = 0 := by
            unfold parentD
            rw [pP_par, k2]
            rfl
          have n1 : (renameD y2 pN pP).1 = 0 := ren_ok l2 pN_ok pP_ok re2 pp2 (by rw [kp2]; decide)
          obtain ⟨_, n2, _, _, _⟩ := ren_done f2 pN_pP n1
          have f3 := (ren_fine f2 pN pP).1
          have o3 : Ov [jd, fP (textD l)] (En D0 l 0) (renameD y2 pN pP).2.D := by
            show Ov [jd, fP (textD l)] D0 _
            refine ⟨f3.pl, f3.so, fun y => ?_⟩
            rw [n2, w4]
            show y ∈ filesD ((y2.D.del (keyD pN)).put (keyD pP) (itemD false (textD l))) ↔ _
            rw [memP_put (f2.pl.del _) _ _ pP_ok, memP_del f2.pl, o2.mem]
            constructor
            · rintro (q | ⟨⟨q | q, n⟩, _⟩)
              · exact Or.inr (List.mem_cons_of_mem _ (List.mem_singleton.2 q))
              · exact Or.inl q
              · rcases List.mem_cons.1 q with q | q
                · exact Or.inr (List.mem_cons.2 (Or.inl q))
                · exact absurd (by rw [List.mem_singleton.1 q]; rfl) n
            · rintro (q | q)
              · exact Or.inr ⟨⟨Or.inl q, fun e => by have := h.noj y q; rw [e, jB_pN] at this; cases this⟩, fun e => by have := h.noj y q; rw [e, jB_pP] at this; cases this⟩
              · rcases List.mem_cons.1 q with q | q
                · exact Or.inr ⟨⟨Or.inr (List.mem_cons.2 (Or.inl q)), by rw [q]; exact jn_pN⟩, by rw [q]; exact jn_pP⟩
                · exact Or.inl (List.mem_singleton.1 q)
          have r3 : (renameD y2 pN pP).2.rs.length = 3 := by rw [n2, note_len, r2]
          rw [hW3, if_neg (by rw [n1]; exact hz0)]
          have he := end_ph h f3 (Nat.zero_le _) o3
          obtain ⟨r, hr, _⟩ := (tch_end l (renameD y2 pN pP).2).raw
          have hlen : 3 ≤ (endA l (renameD y2 pN pP).2).2.rs.length := by rw [hr, List.length_append]; omega
          rcases he with ⟨q1, q2⟩ | ⟨q1, _, q3⟩
          · exact ⟨Or.inl q1, Or.inr ⟨hlen, Or.inr (Or.inr (by rw [q2]; exact ov_refl (h.fineE _)))⟩⟩
          · exact ⟨Or.inr q1, Or.inr ⟨hlen, q3⟩⟩
end Go.Proofs.YtpaoimhebheaeaaGreatDoor
namespace Go.Proofs.YtpaoimhebheaeaaGreatDoor
open Go.RowKit Go.Maps Go.WideMaps Go.WideElems Dk
set_option maxRecDepth 100000

/-- A document's disk with these files, apart from some memory. -/
def Kept (w : World) (e : Nat) (F : List Fl) (Ft : Nat → Prop) : Prop := ∃ lo lc b, w.cell? ⟨e, 0, none⟩ = some (.slice lo F.length lc) ∧ w.ownsRow b 83 3 (.slice lo F.length lc) F.length (fileCells F) ∧ e < w.heap.size ∧ ¬ Ft e ∧ ∀ j, (Value.slice lo F.length lc).ownBlock = some j → ¬ Ft j
theorem Kept.below {w w' : World} {e : Nat} {F : List Fl} {Ft : Nat → Prop} (h : Kept w e F Ft) (hb : Below w.heap.size w w') : Kept w' e F Ft := by
  obtain ⟨lo, lc, b, h1, h2, h3, h4, h5⟩ := h
  exact ⟨lo, lc, b, (hb.cell (p := ⟨e, 0, none⟩) h3).trans h1, rowJ_below h2 hb, Nat.lt_of_lt_of_le h3 hb.size, h4, h5⟩
theorem Kept.upd {w w' : World} {e : Nat} {F : List Fl} {Ft Ft2 : Nat → Prop} (h : Kept w e F Ft) (hu : Upd Ft w w') (hj : ∀ j, Ft2 j → Ft j ∨ w.heap.size ≤ j) : Kept w' e F Ft2 := by
  obtain ⟨lo, lc, b, h1, h2, h3, h4, h5⟩ := h
  refine ⟨lo, lc, b, (World.cell?_of_block (hu.block e h3 h4)).trans h1, ownsRow_upd h2 hu h5, Nat.lt_of_lt_of_le h3 hu.size, fun q => ?_, fun j q r => ?_⟩
  · rcases hj e q with s | s
    · exact h4 s
    · omega
  · rcases hj j r with s | s
    · exact h5 j q s
    · have := (row_lt h2 q).1
      omega
theorem kept_ref {B : Nat} {w : World} {e : Nat} {lv rv : Value} {F : List Fl} {rs : List (Int × ByteArray × ByteArray)} {left : Int} {Ft : Nat → Prop} (h : IsRef B w e lv rv F rs left) (hd : ∀ j, Ft j → ¬ FootR e lv rv j) : Kept w e F Ft := by
  obtain ⟨lo, lc, rfl⟩ := row_form h.lrow
  exact ⟨lo, lc, B, h.c0, h.lrow, h.lt, fun q => hd e q (Or.inl rfl), fun j q r => hd j r (Or.inr (Or.inl q))⟩
/-- The program's disk, and two of the document's. -/
def PkA (B : Nat) (w : World) (d : Nat) (x : Ab) (m : Int) (k : Nat) (e1 : Nat) (F1 : List Fl) (e2 : Nat) (F2 : List Fl) : Prop := ∃ mb n rv, PrgK B w d mb n rv x m k ∧ Kept w e1 F1 (Foot d mb rv) ∧ Kept w e2 F2 (Foot d mb rv)
theorem PkA.pk {B : Nat} {w : World} {d : Nat} {x : Ab} {m : Int} {k e1 e2 : Nat} {F1 F2 : List Fl} (h : PkA B w d x m k e1 F1 e2 F2) : Pk B w d x m k := by
  obtain ⟨mb, n, rv, h1, _⟩ := h
  exact ⟨mb, n, rv, h1⟩
theorem PkA.fine {B : Nat} {w : World} {d : Nat} {x : Ab} {m : Int} {k e1 e2 : Nat} {F1 F2 : List Fl} (h : PkA B w d x m k e1 F1 e2 F2) : Fine x := by
  obtain ⟨mb, n, rv, h1, _⟩ := h
  exact h1.fine
theorem PkA.below {B : Nat} {w w' : World} {d : Nat} {x : Ab} {m : Int} {k e1 e2 : Nat} {F1 F2 : List Fl} (h : PkA B w d x m k e1 F1 e2 F2) (hb : Below w.heap.size w w') : PkA B w' d x m k e1 F1 e2 F2 := by
  obtain ⟨mb, n, rv, h1, h2, h3⟩ := h
  exact ⟨mb, n, rv, h1.below hb, h2.below hb, h3.below hb⟩
theorem PkA.more {B : Nat} {w : World} {d : Nat} {x : Ab} {m : Int} {k k' e1 e2 : Nat} {F1 F2 : List Fl} (h : PkA B w d x m k e1 F1 e2 F2) (hk : k ≤ k') : PkA B w d x m k' e1 F1 e2 F2 := by
  obtain ⟨mb, n, rv, h1, h2⟩ := h
  exact ⟨mb, n, rv, h1.more hk, h2⟩
theorem PkA.call {B : Nat} {w : World} {d : Nat} {x y : Ab} {m : Int} {k k2 e1 e2 : Nat} {F1 F2 : List Fl} (h : PkA B w d x m k e1 F1 e2 F2) {f : Nat} {args : Array Value} {E : Ending} (hc : ∀ mb n rv, PrgK B w d mb n rv x m k → Calls Tryz.prog f args w fun e' w' => e' = E ∧ PrgT B w d mb rv y m k2 w') :
    Calls Tryz.prog f args w fun e' w' => e' = E ∧ PkA B w' d y m k2 e1 F1 e2 F2 ∧ Below B w w' := by
  obtain ⟨mb, n, rv, h1, h2, h3⟩ := h
  refine (hc mb n rv h1).mono ?_
  rintro e' w' ⟨he, ht⟩
  have hb := PrgT.bel h1 ht
  obtain ⟨n', rv', p2, hu, hj⟩ := ht
  exact ⟨he, ⟨mb, n', rv', p2, h2.upd hu hj, h3.upd hu hj⟩, hb⟩
theorem PkA.start {B : Nat} {w w' : World} {d e : Nat} {x : Ab} {m : Int} {k : Nat} {gs : List Fl} (h : Bth B w d e x m k) (hb : Below w.heap.size w w') (hr : ∃ lv rv, IsRef w.heap.size w' w.heap.size lv rv (filesD (loadD gs)) [] (-1)) : PkA B w' d x m k e (filesD x.D) w.heap.size (filesD (loadD gs)) := by
  obtain ⟨mb, n, rv, lv, rw', h1, h2, h3⟩ := h
  obtain ⟨lv2, rv2, h4⟩ := hr
  refine ⟨mb, n, rv, h1.below hb, (kept_ref h2.ref h3).below hb, kept_ref h4 fun j q r => ?_⟩
  have a1 := (h1.disk.foot_lt q).1
  have a2 := (h4.foot_lt r).2
  omega
theorem PkA.cut {B : Nat} {w : World} {d : Nat} {x : Ab} {m : Int} {k e1 e2 : Nat} {F1 F2 : List Fl} (h : PkA B w d x m k e1 F1 e2 F2) (z : Int) (hz : z ≤ 9223372036854775807) : Calls Tryz.prog 10 #[.pointer (some ⟨d, 0, none⟩), .int .i64 z] w fun e' w' => e' = .returned (.int .i64 (cutE x.left z)) ∧ PkA B w' d { x with left := cutL x.left z } m (k + 1) e1 F1 e2 F2 ∧ Below B w w' := h.call fun _ _ _ hp => pCut hp z hz
theorem PkA.up {B : Nat} {w : World} {d : Nat} {x : Ab} {m : Int} {k e1 e2 : Nat} {F1 F2 : List Fl} (h : PkA B w d x m k e1 F1 e2 F2) : Calls Tryz.prog 15 #[.pointer (some ⟨d, 0, none⟩)] w fun e' w' => e' = .returned (.tuple #[]) ∧ PkA B w' d { x with left := -1 } m (k + 1) e1 F1 e2 F2 ∧ Below B w w' := h.call fun _ _ _ hp => pUp hp
theorem PkA.recov {B : Nat} {w : World} {d : Nat} {x : Ab} {m : Int} {k e1 e2 : Nat} {F1 F2 : List Fl} (h : PkA B w d x m k e1 F1 e2 F2) (ho : Ord18 x) (hk : k + 1048580 < 2199023255552) : Calls Tryz.prog 17 #[.pointer (some ⟨d, 0, none⟩)] w fun e' w' => e' = .returned (.int .i64 (recA x).1) ∧ PkA B w' d (recA x).2 m (k + 1048579) e1 F1 e2 F2 ∧ Below B w w' := h.call fun _ _ _ hp => (rec_P hp ho.1 (by have := ho.2; omega)).mono fun _ _ q => ⟨q.1, q.2.more (by have := ho.2; omega)⟩
theorem PkA.commit {w0 w : World} {d : Nat} {x : Ab} {m : Int} {k e1 e2 : Nat} {F1 F2 : List Fl} (h : PkA w0.heap.size w d x m k e1 F1 e2 F2) (l : List De) (a : Option Addr) (cap : Nat) (hd : IsDes w0 a l) (hb : Below w0.heap.size w0 w) (hz : ∀ d ∈ l, d.pa.size ≤ maxLen ∧ d.da.size ≤ 100000000) (hsz : (textD l).size ≤ 4194304) (hl : l.length ≤ 8388608) (hk : k + l.length + 8 < 2199023255552) : Calls Tryz.prog 12 #[.pointer (some ⟨d, 0, none⟩), .slice a l.length cap] w fun e' w' => e' = .returned (.int .i64 (commitA l x).1) ∧ PkA w0.heap.size w' d (commitA l x).2 m (k + l.length + 6) e1 F1 e2 F2 ∧ Below w0.heap.size w w' := h.call fun _ _ _ hp => commit_P hp l a cap (des_old hd hb rfl hp) hz hsz hl hk
/-- The phases of both kinds. -/
def Ph (D0 : DataW Unit) (l : List De) : Bool → DataW Unit → Prop
  | true, X => PhN D0 l (textD l) X
  | false, X => PhO D0 (textD l) X
def Fin18 (D0 : DataW Unit) (l : List De) : Bool → DataW Unit
  | true => En D0 l l.length
  | false => D0
theorem rec_ph {D0 : DataW Unit} {l : List De} (h : Run D0 l) {b : Bool} {x : Ab} (hf : Fine x) (hp : Ph D0 l b x.D) : Out x (Fin18 D0 l b) (Ph D0 l b) (recA x) := by
  cases b
  · exact rec_old hf h.fine.pl h.noj hp
  · exact rec_new h hf hp
theorem fin_ph {D0 : DataW Unit} {l : List De} (h : Run D0 l) (b : Bool) : Ph D0 l b (Fin18 D0 l b) := by
  cases b
  · exact Or.inl (ov_refl h.fine)
  · exact Or.inr (Or.inr (ov_refl (h.fineE _)))
theorem out_ph {D0 : DataW Unit} {l : List De} (h : Run D0 l) {b : Bool} {x : Ab} {a : Int × Ab} (ho : Out x (Fin18 D0 l b) (Ph D0 l b) a) : (a.1 = 0 ∨ a.1 = 15) ∧ Ph D0 l b a.2.D := by
  rcases ho with ⟨h1, h2⟩ | ⟨h1, _, h2⟩
  · exact ⟨Or.inl h1, by rw [h2]; exact fin_ph h b⟩
  · exact ⟨Or.inr h1, h2⟩
theorem ord_ph {D0 : DataW Unit} {l : List De} (h : Run D0 l) (hs : (textD l).size ≤ 4194304) (hl : l.length ≤ 1048576) {b : Bool} {x : Ab} (hp : Ph D0 l b x.D) : Ord18 x := by
  have hno : ∀ {J : List Fl} {D : DataW Unit}, Ov J D x.D → NoJ D → (∀ y ∈ J, y.1 ≠ pP) → Ord18 x := fun ho hn hJ => ord_empty (read_gone (kind_noJ ho hn jB_pP (root_not pP_ok) hJ))
  cases b
  · rcases hp with hp | hp | hp
    · exact hno hp h.noj fun y hy => by cases hy
    · exact hno hp h.noj fun y hy => by rw [List.mem_singleton.1 hy]; exact jn_pP
    · exact hno hp h.noj fun y hy => by
        rcases List.mem_cons.1 hy with q | q
        · rw [q]; exact jn_pP
        · rw [List.mem_singleton.1 q]; exact pN_pP
  · rcases hp with ⟨g, _, hp⟩ | hp | hp
    · have hr : readT x.D pP = textD l := read_file hp.pl pP_ok ((hp.mem _).2 (Or.inr (List.mem_cons_of_mem _ (List.mem_singleton.2 rfl))))
      unfold Ord18
      rw [hr, parO_text h.plan]
      exact ⟨hs, hl⟩
    · exact hno hp (h.noE _) fun y hy => by rw [List.mem_singleton.1 hy]; exact jn_pP
    · exact hno hp (h.noE _) fun y hy => by cases hy
/-- The last Recover. -/
theorem last_ph {D0 : DataW Unit} {l : List De} (h : Run D0 l) {b : Bool} {x : Ab} (hf : Fine x) (hl : x.left = -1) (hp : Ph D0 l b x.D) : (recA x).1 = 0 ∧ (recA x).2.D = Fin18 D0 l b ∧ kindD (recA x).2.D jn = 0 := by
  rcases rec_ph h hf hp with ⟨h1, h2⟩ | ⟨_, h2, _⟩
  · refine ⟨h1, h2, ?_⟩
    rw [h2]
    cases b
    · exact kind_noJ (ov_refl h.fine) h.noj jB_jn (root_not jn_ok) fun y hy => by cases hy
    · exact kind_noJ (ov_refl (h.fineE _)) (h.noE _) jB_jn (root_not jn_ok) fun y hy => by cases hy
  · exact absurd hl h2
end Go.Proofs.YtpaoimhebheaeaaGreatDoor
