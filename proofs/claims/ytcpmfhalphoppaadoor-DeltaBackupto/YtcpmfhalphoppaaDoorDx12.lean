/- DeltaBack: what leads there and back. Conditions: sizes. -/
import Derived.Test.YtcpmfhalphoppaaDoorDx11
namespace Go.Proofs.YtcpmfhalphoppaaDoor
open Go.RowKit Go.Maps Go.WideMaps Go.WideElems Dk
set_option maxRecDepth 100000

/-- Five numbers, of which the last four are how many deeds of each kind there are. -/
def ArrAt (w : World) (B : Nat) (l : List De) : Prop := (w.cell? ⟨B, 1, none⟩ = some (.int .i64 (cN 1 l)) ∧ w.cell? ⟨B, 2, none⟩ = some (.int .i64 (cN 2 l)) ∧ w.cell? ⟨B, 3, none⟩ = some (.int .i64 (cN 3 l)) ∧ w.cell? ⟨B, 4, none⟩ = some (.int .i64 (cN 4 l))) ∧
  (w.frozen? ⟨B, 1, none⟩ = false ∧ w.frozen? ⟨B, 2, none⟩ = false ∧ w.frozen? ⟨B, 3, none⟩ = false ∧ w.frozen? ⟨B, 4, none⟩ = false)
theorem ArrAt.far {w : World} {B : Nat} {l : List De} (h : ArrAt w B l) {a : Addr} (ha : a.block ≠ B) (v : Value) : ArrAt (w.setCell a v) B l := by
  obtain ⟨⟨c1, c2, c3, c4⟩, f1, f2, f3, f4⟩ := h
  have q : ∀ i, (w.setCell a v).cell? ⟨B, i, none⟩ = w.cell? ⟨B, i, none⟩ := fun i => World.cell?_setCell_other _ _ _ _ (fun e => ha (by rw [e]))
  refine ⟨⟨(q 1).trans c1, (q 2).trans c2, (q 3).trans c3, (q 4).trans c4⟩, ?_, ?_, ?_, ?_⟩ <;> rw [World.frozen?_setCell] <;> assumption
theorem ArrAt.add {w : World} {B : Nat} {l : List De} (h : ArrAt w B l) (d : De) (k : Nat) (hk : d.kd = k) (h4 : k = 1 ∨ k = 2 ∨ k = 3 ∨ k = 4) : ArrAt (w.setCell ⟨B, k, none⟩ (.int .i64 ((cN k l : Int) + 1))) B (l ++ [d]) := by
  obtain ⟨⟨c1, c2, c3, c4⟩, f1, f2, f3, f4⟩ := h
  have hc : w.cell? ⟨B, k, none⟩ = some (.int .i64 (cN k l)) := by rcases h4 with rfl | rfl | rfl | rfl <;> assumption
  have q : ∀ i v, w.cell? ⟨B, i, none⟩ = some (.int .i64 (cN i l)) → (i : Nat) = v → (w.setCell ⟨B, k, none⟩ (.int .i64 ((cN k l : Int) + 1))).cell? ⟨B, i, none⟩ = some (.int .i64 (cN i (l ++ [d]))) := fun i v hi _ => by
    rw [cN_append, cN_one, hk]
    by_cases e : i = k
    · subst e
      rw [World.cell?_setCell_same _ _ _ hc, if_pos (by simp)]
      rfl
    · rw [World.cell?_setCell_other (h := fun q => e (by cases q; rfl)), hi, if_neg (by simp; omega)]
      rfl
  refine ⟨⟨q 1 1 c1 rfl, q 2 2 c2 rfl, q 3 3 c3 rfl, q 4 4 c4 rfl⟩, ?_, ?_, ?_, ?_⟩ <;> rw [World.frozen?_setCell] <;> assumption
theorem arr_new (w : World) : ArrAt (w.alloc (.cells #[.int .i64 0, .int .i64 0, .int .i64 0, .int .i64 0, .int .i64 0] 34)) w.heap.size [] := by
  have e : (w.alloc (.cells #[.int .i64 0, .int .i64 0, .int .i64 0, .int .i64 0, .int .i64 0] 34)).heap[w.heap.size]? = some (.cells #[.int .i64 0, .int .i64 0, .int .i64 0, .int .i64 0, .int .i64 0] 34 (0, 0)) := by show (w.heap.push _)[w.heap.size]? = _; rw [Array.getElem?_push, if_pos rfl]
  have c : ∀ i v, (#[Value.int .i64 0, .int .i64 0, .int .i64 0, .int .i64 0, .int .i64 0])[i]? = some v → (w.alloc (.cells #[.int .i64 0, .int .i64 0, .int .i64 0, .int .i64 0, .int .i64 0] 34)).cell? ⟨w.heap.size, i, none⟩ = some v := fun i v h => by rw [World.cell?_alloc_new]; exact h
  have fz : ∀ i, (w.alloc (.cells #[.int .i64 0, .int .i64 0, .int .i64 0, .int .i64 0, .int .i64 0] 34)).frozen? ⟨w.heap.size, i, none⟩ = false := fun i => by
    unfold World.frozen?
    simp only [e]
    simp
  exact ⟨⟨c 1 _ rfl, c 2 _ rfl, c 3 _ rfl, c 4 _ rfl⟩, fz 1, fz 2, fz 3, fz 4⟩
theorem ArrAt.below {w w' : World} {B : Nat} {l : List De} (h : ArrAt w B l) (hb : Below (B + 1) w w') : ArrAt w' B l := by
  obtain ⟨⟨c1, c2, c3, c4⟩, f1, f2, f3, f4⟩ := h
  have q : ∀ i, w'.cell? ⟨B, i, none⟩ = w.cell? ⟨B, i, none⟩ := fun i => hb.cell (p := ⟨B, i, none⟩) (Nat.lt_succ_self _)
  have z : ∀ i, w'.frozen? ⟨B, i, none⟩ = w.frozen? ⟨B, i, none⟩ := fun i => by unfold World.frozen?; rw [hb.block B (Nat.lt_succ_self _)]
  exact ⟨⟨(q 1).trans c1, (q 2).trans c2, (q 3).trans c3, (q 4).trans c4⟩, (z 1).trans f1, (z 2).trans f2, (z 3).trans f3, (z 4).trans f4⟩
theorem take_snoc (l : List De) (k : Nat) (hk : k < l.length) : l.take (k + 1) = l.take k ++ [l[k]] := List.take_succ_eq_append_getElem hk
set_option maxHeartbeats 16000000 in
theorem back_walk (fs gs : List Fl) (a b : Option Addr) (ca cb : Nat) (m : Int) (w : World) (hm : w.cell? ⟨0, 0, none⟩ = some (.int .i64 m)) (hlf : fs.length ≤ 1048576) (hlg : gs.length ≤ 1048576) (hcf : IsFiles w a fs) (hcg : IsFiles w b gs)
    (hzf : ∀ f ∈ fs, f.1.size ≤ maxLen ∧ f.2.2.size ≤ 281474976710656) (hzg : ∀ f ∈ gs, f.1.size ≤ maxLen ∧ f.2.2.size ≤ 281474976710656) :
    Calls Tryd.prog 5 #[.slice a fs.length ca, .slice b gs.length cb] w fun e w' => e = .returned (.bool true) ∧ Below w.heap.size w w' := by
  have HD : Hid (Calls Tryd.prog 6 #[.slice a fs.length ca, .slice b gs.length cb] w (DdQ w fs gs)) := deeds_any fs gs a b ca cb m w hm hlf hlg hcf hcg hzf hzg
  have HE : Hid (∀ W, Below w.heap.size w W → Calls Tryd.prog 6 #[.slice b gs.length cb, .slice a fs.length ca] W (DdQ W gs fs)) := fun W hW => deeds_any gs fs b a cb ca m W ((hW.cell (p := ⟨0, 0, none⟩) (cell_lt hm)).trans hm) hlg hlf (hcg.below hW) (hcf.below hW) hzg hzf
  have HLV : Hid (∀ W, Below w.heap.size w W → Calls Tryd.prog 9 #[] W fun e w' => e = .returned (.bool true) ∧ Below w.heap.size w w') := fun W hb => (lives_any m W ((hb.cell (p := ⟨0, 0, none⟩) (cell_lt hm)).trans hm)).mono fun e w' hq => ⟨hq.1, hb.trans (hq.2.mono hb.size)⟩
  by_cases hok : OkJ fs ∧ OkJ gs
  · have HD1 : Hid (Calls Tryd.prog 6 #[.slice a fs.length ca, .slice b gs.length cb] w fun e w' => ∃ ad n cp, e = .returned (.tuple #[.slice ad n cp, .int .i64 0]) ∧ n = (deeds fs gs).length ∧ Below w.heap.size w w' ∧ OwnDe w' w.heap.size (.slice ad n cp) (deeds fs gs)) := HD.out.mono fun e w' hq => by
      obtain ⟨hb, ⟨_, v, he, hd⟩ | ⟨hn, _⟩⟩ := hq
      · obtain ⟨ad, cp, rfl, _⟩ := hd.sl
        exact ⟨ad, _, cp, he, rfl, hb, hd⟩
      · exact absurd hok hn
    have HE1 : Hid (∀ W, Below w.heap.size w W → Calls Tryd.prog 6 #[.slice b gs.length cb, .slice a fs.length ca] W fun e w' => ∃ ad n cp, e = .returned (.tuple #[.slice ad n cp, .int .i64 0]) ∧ n = (deeds gs fs).length ∧ Below W.heap.size W w' ∧ OwnDe w' w.heap.size (.slice ad n cp) (deeds gs fs)) := fun W hW => (HE.out W hW).mono fun e w' hq => by
      obtain ⟨hb, ⟨_, v, he, hd⟩ | ⟨hn, _⟩⟩ := hq
      · obtain ⟨ad, cp, rfl, _⟩ := hd.sl
        exact ⟨ad, _, cp, he, rfl, hb, hd.base hW.size⟩
      · exact absurd ⟨hok.2, hok.1⟩ hn
    have hlen : ∀ {xs ys : List Fl}, OkJ xs → OkJ ys → xs.length ≤ 1048576 → ys.length ≤ 1048576 → (deeds xs ys).length ≤ 4194304 := fun {xs ys} h1 h2 l1 l2 => by
      have hU := List.length_filter_le (wU (filesD (loadD ys))) (filesD (loadD xs)).reverse
      have hR := List.length_filter_le (wR (filesD (loadD ys))) (filesD (loadD xs)).reverse
      have hM := List.length_filter_le (wM (filesD (loadD xs))) (filesD (loadD ys))
      have hP := List.length_filter_le (wP (filesD (loadD xs))) (filesD (loadD ys))
      have e1 := (ordL h1.1).perm.length_eq
      have e2 := (ordL h2.1).perm.length_eq
      rw [List.length_reverse] at hU hR
      unfold deeds deD lU lR lM lP
      simp only [List.length_append, List.length_map]
      omega
    have HND : Hid ((deeds fs gs).length ≤ 4194304) := hlen hok.1 hok.2 hlf hlg
    have HNE : Hid ((deeds gs fs).length ≤ 4194304) := hlen hok.2 hok.1 hlg hlf
    have HPA : Hid (∀ i (hi : i < (deeds fs gs).length), ((deeds gs fs).any fun d => d.pa.toList == (deeds fs gs)[i].pa.toList) = true) := fun i hi => by
      obtain ⟨d', hd', e⟩ := back_paths (ordL hok.1.1).apartL (ordL hok.2.1).apartL (List.getElem_mem hi)
      exact List.any_eq_true.2 ⟨d', hd', beq_bytes.2 e⟩
    have HKD : Hid (∀ i (hi : i < (deeds fs gs).length), (deeds fs gs)[i].kd = 1 ∨ (deeds fs gs)[i].kd = 2 ∨ (deeds fs gs)[i].kd = 3 ∨ (deeds fs gs)[i].kd = 4) := fun i hi => kinds_in (List.getElem_mem hi)
    have HKE : Hid (∀ i (hi : i < (deeds gs fs).length), (deeds gs fs)[i].kd = 1 ∨ (deeds gs fs)[i].kd = 2 ∨ (deeds gs fs)[i].kd = 3 ∨ (deeds gs fs)[i].kd = 4) := fun i hi => kinds_in (List.getElem_mem hi)
    have HCO : Hid (cN 3 (deeds fs gs) = cN 2 (deeds gs fs) ∧ cN 2 (deeds fs gs) = cN 3 (deeds gs fs) ∧ cN 4 (deeds fs gs) + cN 1 (deeds fs gs) = cN 1 (deeds gs fs) + cN 4 (deeds gs fs)) := back_counts (ordL hok.1.1).apartL (ordL hok.2.1).apartL
    clear HD HE hok hcf hcg hm hzf hzg hlen
    generalize deeds fs gs = ds at *
    generalize deeds gs fs = es at *
    go_enter Tryd.func5, Tryd.ntmps5
    go_upto_region 7 with (first
      | (have _t := HB1; go_at_call 6; refine (HE1.out _ HB1.out).mono ?_; rintro e w2 ⟨ad2, n2, cp2, rfl, hn2, hb2, ho2⟩; have HN2 := hide3 hn2; have HB2 := hide3 (HB1.out.trans (hb2.mono HB1.out.size)); have HO2 := hide3 ho2; have HO12 := hide3 (HO1.out.below hb2); have hnn2 : n2 ≤ 4194304 := (by rw [hn2]; exact HNE.out); clear hb2 ho2 hn2)
      | (go_at_call 6; refine HD1.out.mono ?_; rintro e w1 ⟨ad1, n1, cp1, rfl, hn1, hb1, ho1⟩; have HN1 := hide3 hn1; have HB1 := hide3 hb1; have HO1 := hide3 ho1; have hnn1 : n1 ≤ 4194304 := (by rw [hn1]; exact HND.out); clear hb1 ho1 hn1))
    go_wp2_with fail
    go_loopw [9] (fun i wr => ∃ k : Nat, k ≤ n1 ∧ i = .int .i64 k ∧ ∃ q, wr = w2.drewN q) (fun i _ => n1 - (intOf i).toNat)
    case atStart => exact ⟨0, Nat.zero_le _, rfl, 0, rfl⟩
    case round =>
      obtain ⟨k, hk, rfl, q0, rfl⟩ := hrel
      by_cases hlt : k < n1
      · have hkd : k < ds.length := by rw [← HN1.out]; exact hlt
        obtain ⟨gd, cpd, hv, _, _⟩ := HO12.out.some (by omega)
        obtain rfl : ad1 = some ⟨gd, 0, none⟩ := by cases hv; rfl
        clear hv
        obtain ⟨_, d1, _⟩ := HO12.out.cells k hkd
        have HANY := hide3 (HPA.out k hkd)
        have hki : (k : Int) < (n1 : Int) := by omega
        generalize ds[k].pa = p1 at *
        go_wp2
        go_loopw [10, 11] (fun v10 v11 wr => ∃ j : Nat, j ≤ n2 ∧ v11 = .int .i64 j ∧ v10 = .bool ((es.take j).any fun d => d.pa.toList == p1.toList) ∧ ∃ q, wr = w2.drewN q) (fun _ v11 _ => n2 - (intOf v11).toNat)
        case atStart => exact ⟨0, Nat.zero_le _, rfl, rfl, q0, rfl⟩
        case round =>
          obtain ⟨j, hj, rfl, hv10, q1, rfl⟩ := hrel
          by_cases hlj : j < n2
          · have hje : j < es.length := by rw [← HN2.out]; exact hlj
            obtain ⟨ge, cpe, hv, _, _⟩ := HO2.out.some (by omega)
            obtain rfl : ad2 = some ⟨ge, 0, none⟩ := by cases hv; rfl
            clear hv
            obtain ⟨_, e1, _⟩ := HO2.out.cells j hje
            have HNX : Hid ((es.take (j + 1)).any (fun d => d.pa.toList == p1.toList) = ((es.take j).any (fun d => d.pa.toList == p1.toList) || (es[j].pa.toList == p1.toList))) := by
              unfold Hid
              rw [take_snoc es j hje, List.any_append]
              simp
            have hji : (j : Int) < (n2 : Int) := by omega
            generalize ((es.take j).any fun d => d.pa.toList == p1.toList) = bb at *
            subst hv10
            cases bb
            · cases hbe : (es[j].pa.toList == p1.toList)
              · have HN : Hid ((es.take (j + 1)).any (fun d => d.pa.toList == p1.toList) = false) := by unfold Hid; rw [HNX.out, hbe]; rfl
                clear HNX
                generalize es[j].pa = p2 at *
                go_wp2_with fail
                go_quiet (fail)
                go_wp2
                exact ⟨⟨j + 1, by omega, by go_num, by rw [HN.out], q1 + nq, rfl⟩, by simp [intOf]; omega⟩
              · have HN : Hid ((es.take (j + 1)).any (fun d => d.pa.toList == p1.toList) = true) := by unfold Hid; rw [HNX.out, hbe]; rfl
                clear HNX
                generalize es[j].pa = p2 at *
                go_wp2_with fail
                go_quiet (fail)
                go_wp2
                exact ⟨⟨j + 1, by omega, by go_num, by rw [HN.out], q1 + nq, rfl⟩, by simp [intOf]; omega⟩
            · have HN : Hid ((es.take (j + 1)).any (fun d => d.pa.toList == p1.toList) = true) := by unfold Hid; rw [HNX.out]; rfl
              clear HNX
              generalize es[j].pa = p2 at *
              go_wp2_with fail
              go_quiet (fail)
              go_wp2
              exact ⟨⟨j + 1, by omega, by go_num, by rw [HN.out], q1 + nq, rfl⟩, by simp [intOf]; omega⟩
          · obtain rfl : j = n2 := by omega
            have hall : ((es.take j).any fun d => d.pa.toList == p1.toList) = true := by
              rw [List.take_of_length_le (Nat.le_of_eq HN2.out.symm)]
              exact HANY.out
            rw [hall] at hv10
            subst hv10
            clear hall
            go_wp2
            exact ⟨⟨k + 1, by omega, by go_num, q1, rfl⟩, by simp [intOf]; omega⟩
      · obtain rfl : k = n1 := by omega
        have HBQ := hide3 (below_drewN HB2.out q0)
        have HO1Q : Hid (OwnDe (w2.drewN q0) w.heap.size (.slice ad1 k cp1) ds) := HO12.out.below ⟨rfl, rfl, rfl, Nat.le_refl _, fun _ _ => rfl⟩
        have HO2Q : Hid (OwnDe (w2.drewN q0) w.heap.size (.slice ad2 n2 cp2) es) := HO2.out.below ⟨rfl, rfl, rfl, Nat.le_refl _, fun _ _ => rfl⟩
        clear HO12 HO2 HB2 HB1 HPA HO1
        go_upto_region 19 with fail
        have HA1 : Hid (ArrAt (((w2.drewN q0).alloc (.cells #[.int .i64 0, .int .i64 0, .int .i64 0, .int .i64 0, .int .i64 0] 34)).alloc (.cells #[.int .i64 0, .int .i64 0, .int .i64 0, .int .i64 0, .int .i64 0] 34)) w2.heap.size []) := (arr_new (w2.drewN q0)).below ((Below.refl _ _).alloc (by show _ ≤ Array.size (Array.push _ _); rw [Array.size_push]; exact Nat.le_refl _) _)
        have hsz1 : ((w2.drewN q0).alloc (.cells #[.int .i64 0, .int .i64 0, .int .i64 0, .int .i64 0, .int .i64 0] 34)).heap.size = w2.heap.size + 1 := by simp
        have HA2 : Hid (ArrAt (((w2.drewN q0).alloc (.cells #[.int .i64 0, .int .i64 0, .int .i64 0, .int .i64 0, .int .i64 0] 34)).alloc (.cells #[.int .i64 0, .int .i64 0, .int .i64 0, .int .i64 0, .int .i64 0] 34)) (w2.heap.size + 1) []) := by
          unfold Hid
          rw [← hsz1]
          exact arr_new _
        have HBA : Hid (Below w2.heap.size (w2.drewN q0) (((w2.drewN q0).alloc (.cells #[.int .i64 0, .int .i64 0, .int .i64 0, .int .i64 0, .int .i64 0] 34)).alloc (.cells #[.int .i64 0, .int .i64 0, .int .i64 0, .int .i64 0, .int .i64 0] 34))) := (show Below (w2.drewN q0).heap.size (w2.drewN q0) _ from ((Below.refl _ _).alloc (Nat.le_refl _) _).alloc (by simp) _)
        clear hsz1
        go_wp2_with fail
        go_loopw [14] (fun i wr => ∃ j : Nat, j ≤ k ∧ i = .int .i64 j ∧ ArrAt wr w2.heap.size (ds.take j) ∧ ArrAt wr (w2.heap.size + 1) [] ∧ Below w2.heap.size (w2.drewN q0) wr) (fun i _ => k - (intOf i).toNat)
        case atStart => exact ⟨0, Nat.zero_le _, rfl, HA1.out, HA2.out, HBA.out⟩
        case round =>
          obtain ⟨j, hj, rfl, har, har2, hbr⟩ := hrel
          have HAR := hide3 har
          have HAR2 := hide3 har2
          have HBR := hide3 hbr
          clear har har2 hbr
          by_cases hlj : j < k
          · have hjd : j < ds.length := by rw [← HN1.out]; exact hlj
            obtain ⟨gd, cpd, hv, hgd, _⟩ := HO1Q.out.some (by omega)
            obtain rfl : ad1 = some ⟨gd, 0, none⟩ := by cases hv; rfl
            clear hv
            obtain ⟨e0, _, _⟩ := HO1Q.out.cells j hjd
            have d0 := (HBR.out.cell (p := ⟨gd, j * 3, none⟩) hgd).trans e0
            have HKJ := hide3 (HKD.out j hjd)
            have HTK := hide3 (take_snoc ds j hjd)
            obtain ⟨⟨c1, c2, c3, c4⟩, f1, f2, f3, f4⟩ := HAR.out
            have hcn : ∀ i, cN i (ds.take j) ≤ 4194304 := fun i => Nat.le_trans (cN_le _ _) (by rw [List.length_take]; omega)
            have l1 := hcn 1
            have l2 := hcn 2
            have l3 := hcn 3
            have l4 := hcn 4
            have hji : (j : Int) < (k : Int) := by omega
            clear hcn e0
            rcases HKJ.out with e | e | e | e
            · have HAD := hide3 (HAR.out.add ds[j] 1 e (by decide))
              rw [← HTK.out] at HAD
              have HAD2 := hide3 (HAR2.out.far (a := ⟨w2.heap.size, 1, none⟩) (by simp) (.int .i64 ((cN 1 (ds.take j) : Int) + 1)))
              have HBD := hide3 (HBR.out.setCell (p := ⟨w2.heap.size, 1, none⟩) (Nat.le_refl _) (.int .i64 ((cN 1 (ds.take j) : Int) + 1)))
              rw [e] at d0
              clear HTK HKJ e HAR HAR2
              generalize cN 1 (ds.take j) = x1 at *
              generalize cN 2 (ds.take j) = x2 at *
              generalize cN 3 (ds.take j) = x3 at *
              generalize cN 4 (ds.take j) = x4 at *
              go_wp2
              exact ⟨⟨j + 1, by omega, by go_num, HAD.out, HAD2.out, HBD.out⟩, by simp [intOf]; omega⟩
            · have HAD := hide3 (HAR.out.add ds[j] 2 e (by decide))
              rw [← HTK.out] at HAD
              have HAD2 := hide3 (HAR2.out.far (a := ⟨w2.heap.size, 2, none⟩) (by simp) (.int .i64 ((cN 2 (ds.take j) : Int) + 1)))
              have HBD := hide3 (HBR.out.setCell (p := ⟨w2.heap.size, 2, none⟩) (Nat.le_refl _) (.int .i64 ((cN 2 (ds.take j) : Int) + 1)))
              rw [e] at d0
              clear HTK HKJ e HAR HAR2
              generalize cN 1 (ds.take j) = x1 at *
              generalize cN 2 (ds.take j) = x2 at *
              generalize cN 3 (ds.take j) = x3 at *
              generalize cN 4 (ds.take j) = x4 at *
              go_wp2
              exact ⟨⟨j + 1, by omega, by go_num, HAD.out, HAD2.out, HBD.out⟩, by simp [intOf]; omega⟩
            · have HAD := hide3 (HAR.out.add ds[j] 3 e (by decide))
              rw [← HTK.out] at HAD
              have HAD2 := hide3 (HAR2.out.far (a := ⟨w2.heap.size, 3, none⟩) (by simp) (.int .i64 ((cN 3 (ds.take j) : Int) + 1)))
              have HBD := hide3 (HBR.out.setCell (p := ⟨w2.heap.size, 3, none⟩) (Nat.le_refl _) (.int .i64 ((cN 3 (ds.take j) : Int) + 1)))
              rw [e] at d0
              clear HTK HKJ e HAR HAR2
              generalize cN 1 (ds.take j) = x1 at *
              generalize cN 2 (ds.take j) = x2 at *
              generalize cN 3 (ds.take j) = x3 at *
              generalize cN 4 (ds.take j) = x4 at *
              go_wp2
              exact ⟨⟨j + 1, by omega, by go_num, HAD.out, HAD2.out, HBD.out⟩, by simp [intOf]; omega⟩
            · have HAD := hide3 (HAR.out.add ds[j] 4 e (by decide))
              rw [← HTK.out] at HAD
              have HAD2 := hide3 (HAR2.out.far (a := ⟨w2.heap.size, 4, none⟩) (by simp) (.int .i64 ((cN 4 (ds.take j) : Int) + 1)))
              have HBD := hide3 (HBR.out.setCell (p := ⟨w2.heap.size, 4, none⟩) (Nat.le_refl _) (.int .i64 ((cN 4 (ds.take j) : Int) + 1)))
              rw [e] at d0
              clear HTK HKJ e HAR HAR2
              generalize cN 1 (ds.take j) = x1 at *
              generalize cN 2 (ds.take j) = x2 at *
              generalize cN 3 (ds.take j) = x3 at *
              generalize cN 4 (ds.take j) = x4 at *
              go_wp2
              exact ⟨⟨j + 1, by omega, by go_num, HAD.out, HAD2.out, HBD.out⟩, by simp [intOf]; omega⟩
          · obtain rfl : j = k := by omega
            rw [List.take_of_length_le (Nat.le_of_eq HN1.out.symm)] at HAR
            go_wp2_with fail
            obtain ⟨wa, rfl⟩ : ∃ x, x = wr := ⟨wr, rfl⟩
            go_loopw [15] (fun i wr => ∃ l : Nat, l ≤ n2 ∧ i = .int .i64 l ∧ ArrAt wr w2.heap.size ds ∧ ArrAt wr (w2.heap.size + 1) (es.take l) ∧ Below w2.heap.size (w2.drewN q0) wr) (fun i _ => n2 - (intOf i).toNat)
            case atStart => exact ⟨0, Nat.zero_le _, rfl, HAR.out, HAR2.out, HBR.out⟩
            case round =>
              obtain ⟨l, hl, rfl, har, har2, hbr⟩ := hrel
              have HAS := hide3 har
              have HAS2 := hide3 har2
              have HBS := hide3 hbr
              clear har har2 hbr
              by_cases hll : l < n2
              · have hle : l < es.length := by rw [← HN2.out]; exact hll
                obtain ⟨ge, cpe, hv, hge, _⟩ := HO2Q.out.some (by omega)
                obtain rfl : ad2 = some ⟨ge, 0, none⟩ := by cases hv; rfl
                clear hv
                obtain ⟨e0, _, _⟩ := HO2Q.out.cells l hle
                have d0 := (HBS.out.cell (p := ⟨ge, l * 3, none⟩) hge).trans e0
                have HKJ := hide3 (HKE.out l hle)
                have HTK := hide3 (take_snoc es l hle)
                obtain ⟨⟨c1, c2, c3, c4⟩, f1, f2, f3, f4⟩ := HAS2.out
                have hcn : ∀ i, cN i (es.take l) ≤ 4194304 := fun i => Nat.le_trans (cN_le _ _) (by rw [List.length_take]; omega)
                have l1 := hcn 1
                have l2 := hcn 2
                have l3 := hcn 3
                have l4 := hcn 4
                have hli : (l : Int) < (n2 : Int) := by omega
                clear hcn e0
                rcases HKJ.out with e | e | e | e
                · have HAD := hide3 (HAS2.out.add es[l] 1 e (by decide))
                  rw [← HTK.out] at HAD
                  have HAD2 := hide3 (HAS.out.far (a := ⟨w2.heap.size + 1, 1, none⟩) (by simp) (.int .i64 ((cN 1 (es.take l) : Int) + 1)))
                  have HBD := hide3 (HBS.out.setCell (p := ⟨w2.heap.size + 1, 1, none⟩) (Nat.le_succ _) (.int .i64 ((cN 1 (es.take l) : Int) + 1)))
                  rw [e] at d0
                  clear HTK HKJ e HAS HAS2
                  generalize cN 1 (es.take l) = x1 at *
                  generalize cN 2 (es.take l) = x2 at *
                  generalize cN 3 (es.take l) = x3 at *
                  generalize cN 4 (es.take l) = x4 at *
                  go_wp2
                  exact ⟨⟨l + 1, by omega, by go_num, HAD2.out, HAD.out, HBD.out⟩, by simp [intOf]; omega⟩
                · have HAD := hide3 (HAS2.out.add es[l] 2 e (by decide))
                  rw [← HTK.out] at HAD
                  have HAD2 := hide3 (HAS.out.far (a := ⟨w2.heap.size + 1, 2, none⟩) (by simp) (.int .i64 ((cN 2 (es.take l) : Int) + 1)))
                  have HBD := hide3 (HBS.out.setCell (p := ⟨w2.heap.size + 1, 2, none⟩) (Nat.le_succ _) (.int .i64 ((cN 2 (es.take l) : Int) + 1)))
                  rw [e] at d0
                  clear HTK HKJ e HAS HAS2
                  generalize cN 1 (es.take l) = x1 at *
                  generalize cN 2 (es.take l) = x2 at *
                  generalize cN 3 (es.take l) = x3 at *
                  generalize cN 4 (es.take l) = x4 at *
                  go_wp2
                  exact ⟨⟨l + 1, by omega, by go_num, HAD2.out, HAD.out, HBD.out⟩, by simp [intOf]; omega⟩
                · have HAD := hide3 (HAS2.out.add es[l] 3 e (by decide))
                  rw [← HTK.out] at HAD
                  have HAD2 := hide3 (HAS.out.far (a := ⟨w2.heap.size + 1, 3, none⟩) (by simp) (.int .i64 ((cN 3 (es.take l) : Int) + 1)))
                  have HBD := hide3 (HBS.out.setCell (p := ⟨w2.heap.size + 1, 3, none⟩) (Nat.le_succ _) (.int .i64 ((cN 3 (es.take l) : Int) + 1)))
                  rw [e] at d0
                  clear HTK HKJ e HAS HAS2
                  generalize cN 1 (es.take l) = x1 at *
                  generalize cN 2 (es.take l) = x2 at *
                  generalize cN 3 (es.take l) = x3 at *
                  generalize cN 4 (es.take l) = x4 at *
                  go_wp2
                  exact ⟨⟨l + 1, by omega, by go_num, HAD2.out, HAD.out, HBD.out⟩, by simp [intOf]; omega⟩
                · have HAD := hide3 (HAS2.out.add es[l] 4 e (by decide))
                  rw [← HTK.out] at HAD
                  have HAD2 := hide3 (HAS.out.far (a := ⟨w2.heap.size + 1, 4, none⟩) (by simp) (.int .i64 ((cN 4 (es.take l) : Int) + 1)))
                  have HBD := hide3 (HBS.out.setCell (p := ⟨w2.heap.size + 1, 4, none⟩) (Nat.le_succ _) (.int .i64 ((cN 4 (es.take l) : Int) + 1)))
                  rw [e] at d0
                  clear HTK HKJ e HAS HAS2
                  generalize cN 1 (es.take l) = x1 at *
                  generalize cN 2 (es.take l) = x2 at *
                  generalize cN 3 (es.take l) = x3 at *
                  generalize cN 4 (es.take l) = x4 at *
                  go_wp2
                  exact ⟨⟨l + 1, by omega, by go_num, HAD2.out, HAD.out, HBD.out⟩, by simp [intOf]; omega⟩
              · obtain rfl : l = n2 := by omega
                rw [List.take_of_length_le (Nat.le_of_eq HN2.out.symm)] at HAS2
                obtain ⟨⟨c1, c2, c3, c4⟩, _⟩ := HAS.out
                obtain ⟨⟨b1, b2, b3, b4⟩, _⟩ := HAS2.out
                obtain ⟨q1, q2, q3⟩ := HCO.out
                have z1 := Nat.le_trans (cN_le 1 ds) HND.out
                have z4 := Nat.le_trans (cN_le 4 ds) HND.out
                have y1 := Nat.le_trans (cN_le 1 es) HNE.out
                have y4 := Nat.le_trans (cN_le 4 es) HNE.out
                rw [q1] at c3
                rw [q2] at c2
                have hw : IntKind.i64.wrap ((cN 4 ds : Int) - (cN 4 es : Int)) = (cN 1 es : Int) - (cN 1 ds : Int) := by rw [IntKind.wrap_i64] <;> omega
                have hw2 : IntKind.i64.wrap ((cN 1 es : Int) - (cN 1 ds : Int)) = (cN 1 es : Int) - (cN 1 ds : Int) := by rw [IntKind.wrap_i64] <;> omega
                have HBX : Hid (Below w.heap.size w wr) := HBQ.out.trans (HBS.out.mono HBQ.out.size)
                clear q1 q2 q3 z1 z4 y1 y4
                generalize cN 1 ds = x1 at *
                generalize cN 4 ds = x4 at *
                generalize cN 1 es = x5 at *
                generalize cN 2 es = x6 at *
                generalize cN 3 es = x7 at *
                generalize cN 4 es = x8 at *
                go_wp2_with (go_at_call 9; refine (HLV.out _ HBX.out).mono ?_; rintro e w4 ⟨rfl, hb4⟩; have HB4 := hide3 hb4; clear hb4)
                go_ret
                exact ⟨rfl, HB4.out⟩
  · have HD1 : Hid (Calls Tryd.prog 6 #[.slice a fs.length ca, .slice b gs.length cb] w fun e w' => e = .returned (.tuple #[.slice none 0 0, .int .i64 1]) ∧ Below w.heap.size w w') := HD.out.mono fun e w' hq => by
      obtain ⟨hb, ⟨h, _⟩ | ⟨_, he⟩⟩ := hq
      · exact absurd h hok
      · exact ⟨he, hb⟩
    have HE1 : Hid (∀ W, Below w.heap.size w W → Calls Tryd.prog 6 #[.slice b gs.length cb, .slice a fs.length ca] W fun e w' => e = .returned (.tuple #[.slice none 0 0, .int .i64 1]) ∧ Below w.heap.size w w') := fun W hW => (HE.out W hW).mono fun e w' hq => by
      obtain ⟨hb, ⟨h, _⟩ | ⟨_, he⟩⟩ := hq
      · exact absurd ⟨h.2, h.1⟩ hok
      · exact ⟨he, hW.trans (hb.mono hW.size)⟩
    clear HD HE hok hcf hcg hm hzf hzg
    go_enter Tryd.func5, Tryd.ntmps5
    go_wp2_with (first
      | (have _t := HB1; go_at_call 6; refine (HE1.out _ HB1.out).mono ?_; rintro e w2 ⟨rfl, hb2⟩; have HB2 := hide3 hb2; clear hb2)
      | (go_at_call 6; refine HD1.out.mono ?_; rintro e w1 ⟨rfl, hb1⟩; have HB1 := hide3 hb1; clear hb1)
      | (go_at_call 9; refine (HLV.out _ HB2.out).mono ?_; rintro e w4 ⟨rfl, hb4⟩; have HB4 := hide3 hb4; clear hb4))
    go_ret
    exact ⟨rfl, HB4.out⟩
end Go.Proofs.YtcpmfhalphoppaaDoor
