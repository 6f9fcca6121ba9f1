/- Deeds of package delta: just the document's deeds, in their order. Conditions: sizes. -/
import Derived.Test.YtcpmfhalphoppaaDoorDx7
namespace Go.Proofs.YtcpmfhalphoppaaDoor
open Go.RowKit Go.Maps Go.WideMaps Go.WideElems Dk
set_option maxRecDepth 100000

theorem OwnDe.sl {w : World} {B : Nat} {v : Value} {ds : List De} (h : OwnDe w B v ds) : ∃ ad cap, v = .slice ad ds.length cap ∧ ds.length ≤ cap := by
  rcases h.2 with ⟨rfl, hn⟩ | ⟨g, cap, cur, rfl, _, _, hc, _⟩
  · exact ⟨none, 0, by rw [hn], by omega⟩
  · exact ⟨_, cap, rfl, hc⟩
/-- Deeds lie there, wherever. -/
def DesAt (w : World) (ad : Option Addr) (ds : List De) : Prop := (ds = [] ∧ ad = none) ∨ ∃ g off, ad = some ⟨g, off, none⟩ ∧ ∀ j u, (ds.flatMap encE)[j]? = some u → w.cell? ((⟨g, off, none⟩ : Addr).add j) = some u
theorem OwnDe.des {w : World} {B : Nat} {ad : Option Addr} {n cap : Nat} {ds : List De} (h : OwnDe w B (.slice ad n cap) ds) : DesAt w ad ds := by
  have h0 := h
  rcases h.2 with ⟨e, hn⟩ | ⟨g, cap', cur, e, _⟩
  · cases e
    exact Or.inl ⟨List.eq_nil_of_length_eq_zero hn, rfl⟩
  · cases e
    exact Or.inr ⟨g, 0, rfl, fun j u hj => by
      have := row_cells h0 j u hj
      rw [← this]
      congr 1
      unfold Addr.add
      simp
      exact fun e => e.symm⟩
theorem wp_apE {B : Nat} {wx : World} {v : Value} {ts us : List De} {ad : Option Addr} {n c : Nat} {ops : Array Oper} {rest : List Oper} {o : Oper} {f : Act} {Q : Exit → Act → World → Prop}
    (hgd : o.guard = none) (s t : Operand) (ho : o.op = .call { callee := .builtin .append, args := #[s, t], argTypes := #[23, 23] }) (hs : f.eval s = v)
    (hown : OwnDe wx B v ts) (hB : B ≤ wx.heap.size) (hx : f.eval t = .slice ad n c) (hn : us.length = n) (hc : DesAt wx ad us) (hb : ts.length + n ≤ 1000000000)
    (h : ∀ v1 w1, OwnDe w1 B v1 (ts ++ us) → wx.grownBy w1 v.ownBlock → wpList Tryd.prog ops Q rest (f.put o.dst v1) w1) :
    wpList Tryd.prog ops Q (o :: rest) f wx := by
  obtain ⟨i0, hi, hz0, hz1, hz2⟩ := info_parts infoDe
  subst hn
  rcases hc with ⟨rfl, rfl⟩ | ⟨g, off, rfl, hcell⟩
  · have h1 := h v wx (by rw [List.append_nil]; exact hown) ⟨rfl, rfl, rfl, Nat.le_refl _, fun _ _ _ => rfl⟩
    refine wpList_plain hgd fun K hK => ?_
    obtain ⟨base, cap, hv, hnc⟩ : ∃ base cap, v = .slice base ts.length cap ∧ ts.length ≤ cap := hown.sl
    subst hv
    have hr : (Builtin.append_ #[23, 23] o.type #[.slice base ts.length cap, .slice none 0 c]).run Tryd.prog wx = .ok (.slice base ts.length cap) wx := by
      cases base <;> simp [Builtin.append_, run_underlying Tryd.underlying23, sizeOf, typeInfo, hi, Builtin.lenOf, hnc, Builtin.firstCells, loadCells, storeCells]
    unfold Oper.wp execOp
    rw [List.length_nil] at hx
    simp only [ho, resolve, invoke, builtin, Sem.run_bind, Sem.run_pure, Result.andThen_ok, List.map_toArray, List.map_cons, List.map_nil, hs, hx, hr]
    exact hK _ _ h1
  · refine wpList_append_own_wide _ hgd s t 23 ho B 33 i0 _ 3 40 Tryd.underlying23 hi hz0 hz1 hz2 rfl (by decide) v ts.length (ts.flatMap encE) hs hown ⟨g, off, none⟩ us.length c (us.flatMap encE) hx (by rw [encE_len]) hcell (fun u hu => by
      obtain ⟨x, _, hx⟩ := List.mem_flatMap.1 hu
      simp [encE] at hx
      rcases hx with rfl | rfl | rfl <;> rfl) (by unfold maxLen; omega) (by omega) hB ?_
    intro v1 w1 h1 h2 _
    refine h v1 w1 ?_ h2
    unfold OwnDe
    rw [List.length_append, List.flatMap_append]
    exact h1

/-- The deeds of what was handed in. -/
def deeds (fs gs : List Fl) : List De := deD (filesD (loadD fs)) (filesD (loadD gs))
/-- What Deeds answers. -/
def DdQ (w : World) (fs gs : List Fl) (e : Ending) (w' : World) : Prop := Below w.heap.size w w' ∧
  (((OkJ fs ∧ OkJ gs) ∧ ∃ v, e = .returned (.tuple #[v, .int .i64 0]) ∧ OwnDe w' w.heap.size v (deeds fs gs)) ∨ (¬ (OkJ fs ∧ OkJ gs) ∧ e = .returned (.tuple #[.slice none 0 0, .int .i64 1])))
theorem IsFiles.below {w w' : World} {a : Option Addr} {fs : List Fl} (h : IsFiles w a fs) (hb : Below w.heap.size w w') : IsFiles w' a fs := by
  rcases h with h | ⟨g, off, rfl, hg, hc⟩
  · exact Or.inl h
  · refine Or.inr ⟨g, off, rfl, Nat.lt_of_lt_of_le hg hb.size, fun k hk => ?_⟩
    obtain ⟨a0, a1, a2⟩ := hc k hk
    exact ⟨(hb.cell (p := ⟨g, off + k * 3, none⟩) hg).trans a0, (hb.cell (p := ⟨g, off + k * 3 + 1, none⟩) hg).trans a1, (hb.cell (p := ⟨g, off + k * 3 + 1 + 1, none⟩) hg).trans a2⟩
theorem apart_rev {fs : List Fl} (h : Apart fs) : Apart fs.reverse := by
  unfold Apart
  rw [List.pairwise_reverse]
  exact h.imp fun q e => q e.symm
theorem ok_size {fs : List Fl} (h : OkJ fs) : ∀ f ∈ fs, f.1.size ≤ 4096 := fun f hf => (okPath_parts (okF_path (loads_ok h.1 f hf))).1
theorem ok_ne {fs : List Fl} (h : OkJ fs) : ∀ f ∈ fs, f.1 ≠ ByteArray.empty := fun f hf e => by
  have h1 := (okPath_parts (okF_path (loads_ok h.1 f hf))).2
  obtain ⟨i, hi, _⟩ := last_at h1
  rw [e] at hi
  exact absurd hi (Nat.not_lt_zero _)

set_option maxHeartbeats 4000000 in
theorem deeds_any (fs gs : List Fl) (a b : Option Addr) (ca cb : Nat) (m : Int) (w : World) (hm : w.cell? ⟨0, 0, none⟩ = some (.int .i64 m)) (hlf : fs.length ≤ 1048576) (hlg : gs.length ≤ 1048576) (hcf : IsFiles w a fs) (hcg : IsFiles w b gs)
    (hzf : ∀ f ∈ fs, f.1.size ≤ maxLen ∧ f.2.2.size ≤ 281474976710656) (hzg : ∀ f ∈ gs, f.1.size ≤ maxLen ∧ f.2.2.size ≤ 281474976710656) :
    Calls Tryd.prog 6 #[.slice a fs.length ca, .slice b gs.length cb] w (DdQ w fs gs) := by
  have hmax : ∀ n : Nat, n ≤ 281474976710656 → n ≤ maxLen := fun n h => by unfold maxLen; omega
  have HF : Hid (Calls Tryd.prog 10 #[.slice a fs.length ca] w (ByQ w fs)) := byPath_any fs a ca m w hm hlf hcf (fun f hf => ⟨(hzf f hf).1, hmax _ (hzf f hf).2⟩)
  have HG : Hid (∀ W, Below w.heap.size w W → Calls Tryd.prog 10 #[.slice b gs.length cb] W (ByQ W gs)) := fun W hb => byPath_any gs b cb m W ((hb.cell (p := ⟨0, 0, none⟩) (cell_lt hm)).trans hm) hlg (hcg.below hb) (fun f hf => ⟨(hzg f hf).1, hmax _ (hzg f hf).2⟩)
  have HNO : Hid (∀ w', ¬ (OkJ fs ∧ OkJ gs) → Below w.heap.size w w' → DdQ w fs gs (.returned (.tuple #[.slice none 0 0, .int .i64 1])) w') := fun w' h hb => ⟨hb, Or.inr ⟨h, rfl⟩⟩
  have HYES : Hid (∀ w' v, OkJ fs → OkJ gs → Below w.heap.size w w' → OwnDe w' w.heap.size v (deeds fs gs) → DdQ w fs gs (.returned (.tuple #[v, .int .i64 0])) w') := fun w' v h1 h2 hb hd => ⟨hb, Or.inl ⟨⟨h1, h2⟩, v, rfl, hd⟩⟩
  have HZF := hide3 hzf
  have HZG := hide3 hzg
  clear hcf hcg hm hmax hzf hzg
  by_cases hf : OkJ fs
  · have HF2 : Hid (Calls Tryd.prog 10 #[.slice a fs.length ca] w fun e w' => ∃ mb, e = .returned (.tuple #[.map (some mb), .bool true]) ∧ Below w.heap.size w w' ∧ ∃ D, MapAt w' mb fs.length D fs.reverse) := HF.out.mono fun e w' hq => by
      obtain ⟨hb, ⟨_, mb, D, he, hd⟩ | ⟨hn, _⟩⟩ := hq
      · exact ⟨mb, he, hb, D, hd⟩
      · exact absurd hf hn
    have HOF := hide3 hf
    clear HF hf
    by_cases hg : OkJ gs
    · have HG2 : Hid (∀ W, Below w.heap.size w W → Calls Tryd.prog 10 #[.slice b gs.length cb] W fun e w' => ∃ mb, e = .returned (.tuple #[.map (some mb), .bool true]) ∧ Below W.heap.size W w' ∧ ∃ D, MapAt w' mb gs.length D gs.reverse) := fun W hW => (HG.out W hW).mono fun e w' hq => by
        obtain ⟨hb, ⟨_, mb, D, he, hd⟩ | ⟨hn, _⟩⟩ := hq
        · exact ⟨mb, he, hb, D, hd⟩
        · exact absurd hg hn
      have HOG := hide3 hg
      clear HG hg
      have HGO : Hid (∀ W m1 D1 m2 D2, MapAt W m1 fs.length D1 fs.reverse → MapAt W m2 gs.length D2 gs.reverse → Calls Tryd.prog 12 #[.map (some m1), .map (some m2)] W fun e w' => ∃ v X, e = .returned v ∧ X.Perm fs.reverse ∧ OwnDe w' W.heap.size v (lG gs.reverse X) ∧ Below W.heap.size W w') := fun W m1 D1 m2 D2 h1 h2 => goings_any h1 h2 (apart_rev (loads_apart HOG.out.1.1)) (fun x hx => ⟨ok_size HOF.out x (List.mem_reverse.1 hx), (HZF.out x (List.mem_reverse.1 hx)).2⟩) (by rw [List.length_reverse]; exact hlf)
      have HCO : Hid (∀ W m1 D1 m2 D2, MapAt W m1 fs.length D1 fs.reverse → MapAt W m2 gs.length D2 gs.reverse → Calls Tryd.prog 13 #[.map (some m1), .map (some m2)] W fun e w' => ∃ v X, e = .returned v ∧ X.Perm gs.reverse ∧ OwnDe w' W.heap.size v (lC fs.reverse X) ∧ Below W.heap.size W w') := fun W m1 D1 m2 D2 h1 h2 => comings_any h1 h2 (apart_rev (loads_apart HOF.out.1.1)) (fun x hx => ⟨ok_size HOG.out x (List.mem_reverse.1 hx), (HZG.out x (List.mem_reverse.1 hx)).2⟩) (by rw [List.length_reverse]; exact hlg)
        (fun x hx => (ordL HOF.out.1).dirs x (List.mem_reverse.1 hx)) (fun x hx => (ordL HOG.out.1).dirs x (List.mem_reverse.1 hx)) (fun x hx => ok_ne HOG.out x (List.mem_reverse.1 hx))
      have HGI : Hid (∀ X ts, X.Perm fs.reverse → ts.Perm (lG gs.reverse X) → (ts.Pairwise fun x y => ¬ ltD false y x) → ts = lU (filesD (loadD gs)) (filesD (loadD fs)).reverse ++ lR (filesD (loadD gs)) (filesD (loadD fs)).reverse) := fun X ts hX hp hs => by
        refine going_is (ordL HOF.out.1) (ordL HOG.out.1) (hX.trans (List.reverse_perm fs)) (V := X) ?_ hs
        have e : lG gs.reverse X = lG gs X := by
          unfold lG wG
          congr 1
          refine List.filter_congr fun x _ => ?_
          rw [atL_same (apart_rev (loads_apart HOG.out.1.1)) (loads_apart HOG.out.1.1) (fun f => List.mem_reverse)]
        rw [← e]; exact hp
      have HCI : Hid (∀ X ts, X.Perm gs.reverse → ts.Perm (lC fs.reverse X) → (ts.Pairwise fun x y => ¬ ltD true y x) → ts = lM (filesD (loadD fs)) (filesD (loadD gs)) ++ lP (filesD (loadD fs)) (filesD (loadD gs))) := fun X ts hX hp hs => by
        refine coming_is (ordL HOF.out.1) (ordL HOG.out.1) (hX.trans (List.reverse_perm gs)) (V := X) ?_ hs
        have e : lC fs.reverse X = lC fs X := by
          unfold lC wC
          congr 1
          refine List.filter_congr fun x _ => ?_
          rw [atL_same (apart_rev (loads_apart HOF.out.1.1)) (loads_apart HOF.out.1.1) (fun f => List.mem_reverse)]
        rw [← e]; exact hp
      have HSG : Hid (∀ W B v ds, ds.length ≤ 1048576 → OwnDe W B v ds → Calls Tryd.prog 11 #[v, .int .i64 (-1)] W fun e w' => e = .returned v ∧ ∃ ts : List De, ts.Perm ds ∧ (ts.Pairwise fun x y => ¬ ltD false y x) ∧ OwnDe w' B v ts ∧ W.grownBy w' v.ownBlock) := fun W B v ds hl h => inOrder_any false h (by omega)
      have HSC : Hid (∀ W B v ds, ds.length ≤ 1048576 → OwnDe W B v ds → Calls Tryd.prog 11 #[v, .int .i64 1] W fun e w' => e = .returned v ∧ ∃ ts : List De, ts.Perm ds ∧ (ts.Pairwise fun x y => ¬ ltD true y x) ∧ OwnDe w' B v ts ∧ W.grownBy w' v.ownBlock) := fun W B v ds hl h => inOrder_any true h (by omega)
      have HNG : Hid (∀ X : List Fl, X.Perm fs.reverse → (lG gs.reverse X).length ≤ 1048576) := fun X hX => by have h1 := lG_len gs.reverse X; have h2 := hX.length_eq; rw [List.length_reverse] at h2; omega
      have HNC : Hid (∀ X : List Fl, X.Perm gs.reverse → (lC fs.reverse X).length ≤ 1048576) := fun X hX => by have h1 := lC_len fs.reverse X; have h2 := hX.length_eq; rw [List.length_reverse] at h2; omega
      have HDE : Hid (∀ A C : List De, A = lU (filesD (loadD gs)) (filesD (loadD fs)).reverse ++ lR (filesD (loadD gs)) (filesD (loadD fs)).reverse → C = lM (filesD (loadD fs)) (filesD (loadD gs)) ++ lP (filesD (loadD fs)) (filesD (loadD gs)) → A ++ C = deeds fs gs) := fun A C h1 h2 => by rw [h1, h2]; unfold deeds deD; simp only [List.append_assoc]
      clear HZF HZG
      generalize DdQ w fs gs = HQ at *
      go_enter Tryd.func6, Tryd.ntmps6
      go_upto_region 7 with (first
        | (have _t := HB1; go_at_call 10; refine (HG2.out _ HB1.out).mono ?_; rintro e w2 ⟨m2, rfl, hb2, D2, hd2⟩; have HB2 := hide3 (HB1.out.trans (hb2.mono HB1.out.size)); have HM2 := hide3 hd2; have HM1' := hide3 (HM1.out.below hb2); clear hb2 hd2)
        | (go_at_call 10; refine HF2.out.mono ?_; rintro e w1 ⟨m1, rfl, hb1, D1, hd1⟩; have HB1 := hide3 hb1; have HM1 := hide3 hd1; clear hb1 hd1))
      go_upto_region 8 with (first
        | (go_at_call 12; refine (HGO.out _ _ _ _ _ HM1'.out HM2.out).mono ?_; rintro e w3 ⟨v3, X3, rfl, hX3, ho3, hb3⟩; have HX3 := hide3 hX3; have HO3 := hide3 ho3; have HB3 := hide3 hb3; clear hX3 ho3 hb3)
        | (go_at_call 11; refine (HSG.out _ _ _ _ (HNG.out _ HX3.out) HO3.out).mono ?_; rintro e w4 ⟨rfl, ts4, hp4, hs4, ho4, hg4⟩; have HA4 := hide3 (HGI.out _ _ HX3.out hp4 hs4); have HO4 := hide3 ho4; have HL4 := hide3 (Nat.le_trans (Nat.le_of_eq hp4.length_eq) (HNG.out _ HX3.out)); have HB4 := hide3 (HB3.out.grown hg4 HB3.out.size (fun k hk => (HO3.out.lt hk).2)); clear hp4 hs4 ho4 hg4))
      have HM14 := hide3 (HM1'.out.below HB4.out)
      have HM24 := hide3 (HM2.out.below HB4.out)
      go_upto_region 9 with (first
        | (go_at_call 13; refine (HCO.out _ _ _ _ _ HM14.out HM24.out).mono ?_; rintro e w5 ⟨v5, X5, rfl, hX5, ho5, hb5⟩; have HX5 := hide3 hX5; have HO5 := hide3 ho5; have HB5 := hide3 hb5; clear hX5 ho5 hb5)
        | (go_at_call 11; refine (HSC.out _ _ _ _ (HNC.out _ HX5.out) HO5.out).mono ?_; rintro e w6 ⟨rfl, ts6, hp6, hs6, ho6, hg6⟩; have HA6 := hide3 (HCI.out _ _ HX5.out hp6 hs6); have HO6 := hide3 ho6; have HL6 := hide3 (Nat.le_trans (Nat.le_of_eq hp6.length_eq) (HNC.out _ HX5.out)); have HB6 := hide3 (HB5.out.grown hg6 HB5.out.size (fun k hk => (HO5.out.lt hk).2)); clear hp6 hs6 ho6 hg6))
      obtain ⟨ad6, c6, hv6, _⟩ := HO6.out.sl
      obtain ⟨n6, hn6⟩ : ∃ n, ts6.length = n := ⟨_, rfl⟩
      have HN6 := hide3 hn6
      have HV6 := HO6.out
      rw [hv6, hn6] at HV6
      have HDS := hide3 HV6.des
      have HO46 := hide3 (HO4.out.below HB6.out)
      have HB26 := hide3 (HB2.out.trans ((HB4.out.trans (HB6.out.mono HB4.out.size)).mono HB2.out.size))
      have hl4 := HL4.out
      have hl6 : n6 ≤ 1048576 := by rw [← hn6]; exact HL6.out
      have HS6 : Hid (w2.heap.size ≤ w6.heap.size) := Nat.le_trans HB4.out.size HB6.out.size
      have HS2 : Hid (w.heap.size ≤ w2.heap.size) := HB2.out.size
      rw [hn6] at hv6
      clear hn6 HV6 HO6 HO5
      subst hv6
      go_wp2_with (at_builtin; refine wp_apE (us := ts6) rfl _ _ rfl rfl HO46.out HS6.out rfl HN6.out HDS.out (by omega) ?_; intro v7 w7 ho7 hg7; have HO7 := hide3 (ho7.base HS2.out); have HB7 := hide3 (HB26.out.grown hg7 HB26.out.size (fun k hk => Nat.le_trans HS2.out (HO46.out.lt hk).2)); clear ho7 hg7)
      exact HYES.out _ _ HOF.out HOG.out HB7.out (by rw [← HDE.out _ _ HA4.out HA6.out]; exact HO7.out)
    · have HG2 : Hid (∀ W, Below w.heap.size w W → Calls Tryd.prog 10 #[.slice b gs.length cb] W fun e w' => e = .returned (.tuple #[.map none, .bool false]) ∧ Below W.heap.size W w') := fun W hW => (HG.out W hW).mono fun e w' hq => by
        obtain ⟨hb, ⟨h, _⟩ | ⟨_, he⟩⟩ := hq
        · exact absurd h hg
        · exact ⟨he, hb⟩
      have HNOK : Hid (¬ (OkJ fs ∧ OkJ gs)) := fun h => hg h.2
      clear HG hg
      generalize DdQ w fs gs = HQ at *
      go_enter Tryd.func6, Tryd.ntmps6
      go_wp2_with (first
        | (have _t := HB1; go_at_call 10; refine (HG2.out _ HB1.out).mono ?_; rintro e w2 ⟨rfl, hb2⟩; have HB2 := hide3 (HB1.out.trans (hb2.mono HB1.out.size)); clear hb2)
        | (go_at_call 10; refine HF2.out.mono ?_; rintro e w1 ⟨m1, rfl, hb1, D1, hd1⟩; have HB1 := hide3 hb1; have HM1 := hide3 hd1; clear hb1 hd1))
      exact HNO.out _ HNOK.out HB2.out
  · have HF2 : Hid (Calls Tryd.prog 10 #[.slice a fs.length ca] w fun e w' => e = .returned (.tuple #[.map none, .bool false]) ∧ Below w.heap.size w w') := HF.out.mono fun e w' hq => by
      obtain ⟨hb, ⟨h, _⟩ | ⟨_, he⟩⟩ := hq
      · exact absurd h hf
      · exact ⟨he, hb⟩
    have HNOK : Hid (¬ (OkJ fs ∧ OkJ gs)) := fun h => hf h.1
    clear HF hf
    generalize DdQ w fs gs = HQ at *
    go_enter Tryd.func6, Tryd.ntmps6
    go_wp2_with (go_at_call 10; refine HF2.out.mono ?_; rintro e w1 ⟨rfl, hb1⟩; have HB1 := hide3 hb1; clear hb1)
    exact HNO.out _ HNOK.out HB1.out
end Go.Proofs.YtcpmfhalphoppaaDoor
