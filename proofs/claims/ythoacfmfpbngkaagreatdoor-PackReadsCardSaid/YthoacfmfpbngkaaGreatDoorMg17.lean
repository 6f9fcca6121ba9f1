/- Rk11, Pk8, laid in one text. -/
import Derived.Deep.CutRange
import Derived.Test.YthoacfmfpbngkaaGreatDoorMg16
namespace Go.Proofs.YthoacfmfpbngkaaGreatDoor
open Go.RowKit
set_option maxRecDepth 100000

theorem idxW_get : ∀ {X : List Sc.Bs} {s : Sc.Bs} {k : Nat}, idxW X s = (k : Int) → X[k]? = some s
  | [], s, k, h => by unfold idxW at h; omega
  | x :: X, s, k, h => by
    unfold idxW at h
    split at h
    · rename_i e
      obtain rfl : k = 0 := by omega
      rw [e]
      rfl
    · split at h
      · omega
      · have hl := (idxW_lt X s).2
        obtain ⟨j, rfl⟩ : ∃ j, k = j + 1 := ⟨k - 1, by omega⟩
        have := idxW_get (X := X) (s := s) (k := j) (by omega)
        simpa using this
theorem idxW_of : ∀ {X : List Sc.Bs} {s : Sc.Bs} {k : Nat}, X.Nodup → X[k]? = some s → idxW X s = (k : Int)
  | [], s, k, _, h => by simp at h
  | x :: X, s, 0, _, h => by
    have e : s = x := by simpa using h.symm
    unfold idxW
    rw [if_pos e]
    rfl
  | x :: X, s, j + 1, hn, h => by
    rw [List.nodup_cons] at hn
    have h' : X[j]? = some s := by simpa using h
    have := idxW_of hn.2 h'
    have hx : s ≠ x := fun e => hn.1 (by rw [← e]; exact List.mem_of_getElem? h')
    unfold idxW
    rw [if_neg hx, this, if_neg (by omega)]
    omega
/-- The word stands nowhere from a on. -/
theorem idxW_not {X : List Sc.Bs} {s : Sc.Bs} {a : Nat} (h : ∀ j (hj : j < X.length), a ≤ j → X[j] ≠ s) : idxW X s < (a : Int) := by
  by_cases hc : idxW X s < (a : Int)
  · exact hc
  · obtain ⟨k, hk⟩ : ∃ k : Nat, idxW X s = (k : Int) := ⟨(idxW X s).toNat, by omega⟩
    have h1 := idxW_get hk
    obtain ⟨hl, he⟩ := List.getElem?_eq_some_iff.1 h1
    exact absurd he (h k hl (by omega))
theorem depE_name {q : Option ByteArray} {n : ByteArray} {ws : List Sc.Bs} (h : depE q n ws = 0) : n.size ≠ 0 ∧ n.size ≤ 16 := by
  unfold depE at h
  split at h
  · rename_i hf
    unfold followB at hf
    rw [Bool.and_eq_true] at hf
    have hn := hf.1
    unfold Sc.nameA at hn
    rw [Bool.and_eq_true, Bool.and_eq_true, decide_eq_true_eq, list_size] at hn
    refine ⟨fun e => ?_, hn.2⟩
    have : n.data.toList = [] := List.eq_nil_of_length_eq_zero (by rw [list_size]; exact e)
    rw [this] at hn
    exact absurd hn.1.1 (by simp [Sc.headB])
  · cases h
theorem OwnD.last {w : World} {B : Nat} {v : Value} {ps : List (Dp × Value)} (h : OwnD w B v ps) {m : Nat} (hm : ps.length = m + 1) :
    ∃ g cap p, v = .slice (some ⟨g, 0, none⟩) (m + 1) cap ∧ m + 1 ≤ cap ∧ p ∈ ps ∧ w.cell? ⟨g, m * 2, none⟩ = some (.string p.1.nm) ∧ g < w.heap.size ∧ lastN (ps.map (·.1)) = some p.1.nm := by
  have h0 := h.1
  obtain ⟨h1, _⟩ := dpCells_at ps m (by omega)
  have hlt := h0.1
  rcases h0.2 with ⟨_, hn⟩ | ⟨g, cap, cur, rfl, hB, hg, hc, _⟩
  · omega
  · refine ⟨g, cap, ps[m], by rw [hm], by omega, List.getElem_mem _, ?_, (Array.getElem?_eq_some_iff.1 hg).1, ?_⟩
    · rw [h0.cellAt (m * 2) (by omega)]; exact h1
    · unfold lastN
      rw [List.getLast?_map, List.getLast?_eq_getElem?]
      have e : ps.length - 1 = m := by omega
      rw [e, List.getElem?_eq_getElem (show m < ps.length by omega)]
      rfl

theorem rd_err {X : List Sc.Bs} {a kk : Nat} {acc : List (List Dp)} {ln : List Sc.Bs} {r : List (List Sc.Bs)} (h2 : idxW X (ln.getD 0 []) = (kk : Int)) (h3 : a ≤ kk) {er : Int} (h4 : rdepE (lastN (acc.getD kk [])) ln = er) (h0 : er ≠ 0) : (readF X a acc (ln :: r)).1 = er := by
  unfold rdepE at h4
  split at h4
  · rename_i h
    rw [readF_short h]
    exact h4
  · rename_i h
    exact readF_err h h2 h3 h4 h0
theorem rd_step {X : List Sc.Bs} {a kk : Nat} {acc : List (List Dp)} {ln : List Sc.Bs} {r : List (List Sc.Bs)} (h2 : idxW X (ln.getD 0 []) = (kk : Int)) (h3 : a ≤ kk) (h4 : rdepE (lastN (acc.getD kk [])) ln = 0) : readF X a acc (ln :: r) = readF X kk (acc.set kk (acc.getD kk [] ++ [lineDp ln])) r := by
  unfold rdepE at h4
  split at h4
  · cases h4
  · rename_i h
    exact readF_step h h2 h3 h4
theorem rd_name {q : Option ByteArray} {ln : List Sc.Bs} (h : rdepE q ln = 0) : (lineDp ln).nm.size ≠ 0 ∧ (lineDp ln).nm.size ≤ 16 := by
  unfold rdepE at h
  split at h
  · cases h
  · exact depE_name h

set_option maxHeartbeats 12800000 in
theorem rLists_any {X : List Sc.Bs} {Lns : List (List Sc.Bs)} {vl vx : Value} {w : World} (hl : Sc.LinesAt w vl Lns) (hx : Sc.WordsAt w vx X) (hX : X.length ≤ 16) (hXn : X.Nodup) (hn : Lns.length ≤ 5000) (hne : ∀ ln ∈ Lns, ln ≠ []) (hs : ∀ ln ∈ Lns, ShortLn ln) (hz : ∀ ln ∈ Lns, ∀ x ∈ ln, x.length ≤ 5000) :
    Calls Tryz.prog 14 #[vl, vx] w (ReadQ w (readF X 0 (List.replicate X.length []) Lns)) := by
  have HRD : Hid (∀ w1 (ln : List Sc.Bs) vw (q : Option ByteArray) (last : ByteArray), Sc.WordsAt w1 vw ln → ln ∈ Lns → last = q.getD ⟨#[]⟩ → (∀ s, q = some s → s.size ≠ 0) → last.size ≤ 1000000 → Calls Tryz.prog 28 #[vw, .string last] w1 (DepQ w1 (Sc.ba (ln.getD 1 [])) (ln.drop 2) (rdepE q ln))) := fun w1 ln vw q last h1 hm h2 h3 h4 => rDep_any h1 (hs ln hm) (hz ln hm) h2 h3 h4
  have HLN : Hid (∀ w1, Below w.heap.size w w1 → Sc.LinesAt w1 vl Lns) := fun w1 hb => hl.below hb
  have HXA : Hid (∀ w1, Below w.heap.size w w1 → Sc.WordsAt w1 vx X) := fun w1 hb => hx.below hb
  have HER : Hid (∀ er w', (readF X 0 (List.replicate X.length []) Lns).1 = er → er ≠ 0 → Below w.heap.size w w' → ReadQ w (readF X 0 (List.replicate X.length []) Lns) (.returned (.tuple #[.slice none 0 0, .int .i64 er])) w') := fun er w' h1 h2 h3 => ReadQ.err h1 h2 h3
  have HOK : Hid (∀ (rows : List (Value × List (Dp × Value))) w', rows.length = X.length → KX w w.heap.size rows w' → readF X 0 (List.replicate X.length []) Lns = (0, plainR rows) → ReadQ w (readF X 0 (List.replicate X.length []) Lns) (.returned (.tuple #[.slice (some ⟨w.heap.size, 0, none⟩) X.length X.length, .int .i64 0])) w') := fun rows w' h0 h1 h2 => by
    rw [h2]
    exact ⟨_, rfl, h1.1, fun _ => ⟨w.heap.size, rows, by rw [h0], h1.2, rfl⟩, fun h => absurd rfl h⟩
  have HNE := hide3 hne
  have HXN := hide3 hXn
  obtain ⟨adl, capl, rfl, hcl, _⟩ := hl
  obtain ⟨adx, capx, rfl, hcx, _⟩ := hx
  obtain ⟨i0, hi, hz0, hz1, hz2⟩ := Sc.info_parts infoDeps
  clear hs hz hne hXn
  have HRF : Hid (readF X 0 (List.replicate X.length []) Lns = readF X 0 (plainR (List.replicate X.length (.slice none 0 0, []))) (Lns.drop 0)) := by
    unfold Hid plainR
    rw [List.map_replicate, List.drop_zero]
    rfl
  generalize hFR : readF X 0 (List.replicate X.length []) Lns = FR at *
  clear hFR
  generalize hQ : ReadQ w FR = RQ at *
  clear hQ
  go_enter Tryz.func14, Tryz.ntmps14
  go_wp2_with (at_make; refine wpList_make_full _ rfl _ _ 41 rfl w.heap.size 24 i0 _ 1 Tryz.underlying41 hi hz0 hz1 .i64 .i64 _ _ X.length rfl rfl rfl rfl (by rw [hz2]; omega) (by unfold maxLen; omega) (Nat.le_refl _) ?_; intro w1 hown1 hg1; have HK1 : Hid (KX w w.heap.size (List.replicate X.length (.slice none 0 0, [])) w1) := ⟨(Below.refl _ _).grown hg1 (Nat.le_refl _) (fun q hq => by cases hq), RD.start (by rw [Nat.mul_one] at hown1; rw [show (Value.slice none 0 0).cells = #[Value.slice none 0 0] from rfl, toList_madeCells_one] at hown1; exact hown1)⟩; clear hown1 hg1)
  go_loopw [7, 8] (fun va vi wr => ∃ (k a : Nat) (rows : List (Value × List (Dp × Value))), k ≤ Lns.length ∧ vi = .int .i64 k ∧ va = .int .i64 a ∧ rows.length = X.length ∧ (∀ r ∈ rows, r.2.length ≤ k ∧ ∀ p ∈ r.2, p.1.nm.size ≠ 0 ∧ p.1.nm.size ≤ 16) ∧ KX w w.heap.size rows wr ∧ FR = readF X a (plainR rows) (Lns.drop k) ∧ a ≤ X.length) (fun _ i _ => Lns.length - (intOf i).toNat)
  case atStart => exact ⟨0, 0, _, Nat.zero_le _, rfl, rfl, List.length_replicate .., (fun r hr => by obtain ⟨_, rfl⟩ := List.mem_replicate.1 hr; exact ⟨Nat.le_refl _, fun p hp => by cases hp⟩), HK1.out, HRF.out, Nat.zero_le _⟩
  case round =>
    clear HK1 HRF
    obtain ⟨k, a, rows, hk, rfl, rfl, hrl, hrk, hkx, hrf, haX⟩ := hrel
    have HKX := hide3 hkx
    have HRK := hide3 hrk
    by_cases hlt : k < Lns.length
    · have hmem := List.getElem_mem hlt
      have HLM := hide3 hmem
      obtain ⟨p0, rest0, hln⟩ : ∃ p0 rest0, Lns[k] = p0 :: rest0 := by
        cases hq : Lns[k] with
        | nil => exact absurd hq (HNE.out _ hmem)
        | cons x y => exact ⟨x, y, rfl⟩
      obtain ⟨nl, hnl⟩ : ∃ n, Lns[k].length = n := ⟨_, rfl⟩
      have HLK : Hid (∀ w1, Below w.heap.size w w1 → ∃ gl ol, adl = some ⟨gl, ol, none⟩ ∧ ∃ gw ow cw, w1.cell? ⟨gl, ol + k, none⟩ = some (.slice (some ⟨gw, ow, none⟩) nl cw) ∧ w1.cell? ⟨gw, ow, none⟩ = some (.string (Sc.ba p0)) ∧ Sc.WordsAt w1 (.slice (some ⟨gw, ow, none⟩) nl cw) Lns[k]) := fun w1 hb => by
        obtain ⟨ad2, cap2, e2, _, hcs⟩ := HLN.out w1 hb
        cases e2
        rcases hcs with h | ⟨gl, ol, rfl, hgl, hcs⟩
        · rw [h] at hlt; simp at hlt
        · obtain ⟨u, cl, hwu⟩ := hcs k hlt
          have hwu2 := hwu
          obtain ⟨adu, capu, rfl, hcu, hwc⟩ := hwu
          rw [hnl] at cl hwu2
          rcases hwc with h | ⟨gw, ow, rfl, hgw, hwc⟩
          · rw [h] at hln; cases hln
          · refine ⟨gl, ol, rfl, gw, ow, capu, cl, ?_, hwu2⟩
            have := hwc 0 (by rw [hln]; simp)
            simp only [hln, List.getElem_cons_zero, Nat.add_zero] at this
            exact this
      have hpos : (0 : Int) < (nl : Int) := by rw [← hnl, hln]; simp
      have hposN : 0 < nl := by omega
      rw [List.drop_eq_getElem_cons hlt] at hrf
      have hp0 : Lns[k].getD 0 [] = p0 := by rw [hln]; rfl
      have hlti : (k : Int) < (Lns.length : Int) := by omega
      clear hmem hrk
      generalize hLK : Lns[k] = ln at *
      have HNL := hide3 hnl
      clear hln hLK hnl
      go_wp2_with fail
      go_loopw [9] (fun vk wq => ∃ kk : Nat, a ≤ kk ∧ kk ≤ X.length ∧ vk = .int .i64 kk ∧ (∀ j (hj : j < X.length), a ≤ j → j < kk → X[j] ≠ p0) ∧ KX w w.heap.size rows wq) (fun vk _ => X.length - (intOf vk).toNat)
      case atStart => exact ⟨a, Nat.le_refl _, haX, rfl, fun j _ h1 h2 => by omega, HKX.out⟩
      case round =>
        obtain ⟨kk, hak, hkX, rfl, hnot, hkq⟩ := hrel
        have HKQ := hide3 hkq
        have HNT := hide3 hnot
        obtain ⟨gl, ol, rfl, gw, ow, cw, cl, c0, hwa⟩ := HLK.out _ hkq.1
        clear hnot
        by_cases hkl : kk < X.length
        · obtain ⟨gx, ox, rfl, hgx, hxc⟩ : ∃ g o, adx = some ⟨g, o, none⟩ ∧ g < wr.heap.size ∧ ∀ i (h : i < X.length), wr.cell? ⟨g, o + i, none⟩ = some (.string (Sc.ba X[i])) := by
            obtain ⟨ad2, cap2, e2, _, hcs⟩ := HXA.out _ hkq.1
            cases e2
            rcases hcs with h | h
            · rw [h] at hkl; simp at hkl
            · exact h
          have cx := hxc kk hkl
          have HK : Hid (KeepP fun w1 => KX w w.heap.size rows w1 ∧ Sc.CellK w1 gl (ol + k) (.slice (some ⟨gw, ow, none⟩) nl cw) ∧ Sc.CellK w1 gw ow (.string (Sc.ba p0)) ∧ Sc.CellK w1 gx (ox + kk) (.string (Sc.ba X[kk])) ∧ Sc.WordsAt w1 (.slice (some ⟨gw, ow, none⟩) nl cw) ln) := (keepKX _ _ _).and ((Sc.keepCell _ _ _).and ((Sc.keepCell _ _ _).and ((Sc.keepCell _ _ _).and (fun _ _ h hb => h.below hb))))
          have HO : Hid (KX w w.heap.size rows wr ∧ Sc.CellK wr gl (ol + k) (.slice (some ⟨gw, ow, none⟩) nl cw) ∧ Sc.CellK wr gw ow (.string (Sc.ba p0)) ∧ Sc.CellK wr gx (ox + kk) (.string (Sc.ba X[kk])) ∧ Sc.WordsAt wr (.slice (some ⟨gw, ow, none⟩) nl cw) ln) := ⟨hkq, ⟨cl, cell_in cl⟩, ⟨c0, cell_in c0⟩, ⟨cx, cell_in cx⟩, hwa⟩
          have hkli : (kk : Int) < (X.length : Int) := by omega
          clear cl c0 hwa cx hxc hkq
          by_cases he : X[kk] = p0
          · have hq : ((Sc.ba X[kk]).toList == (Sc.ba p0).toList) = true := by rw [he]; simp
            have hix : idxW X (ln.getD 0 []) = (kk : Int) := by rw [hp0]; exact idxW_of HXN.out (by rw [List.getElem?_eq_getElem hkl, he])
            have hkr : kk < rows.length := by omega
            have hke : ((kk : Int) == (X.length : Int)) = false := by rw [beq_eq_false_iff_ne]; omega
            have HPG := hide3 (plainR_get hkr)
            have hrkk := HRK.out _ (List.getElem_mem hkr)
            have HLD : Hid ((lineDp ln).nm = Sc.ba (ln.getD 1 []) ∧ (lineDp ln).rg = (parL (parR (jnT (ln.drop 2)))).map spR) := ⟨rfl, rfl⟩
            have HDQ : Hid (∀ w1 er e w', DepQ w1 (Sc.ba (ln.getD 1 [])) (ln.drop 2) er e w' → ∃ nm ad len cap, e = .returned (.tuple #[.agg #[.string nm, .slice ad len cap], .int .i64 er]) ∧ Below w1.heap.size w1 w' ∧ (er = 0 → nm = Sc.ba (ln.getD 1 []) ∧ OwnS w' w1.heap.size (.slice ad len cap) (lineDp ln).rg)) := fun w1 er e w' h => by
              obtain ⟨nm, ad, len, cap, h1, h2, h3, _⟩ := h
              exact ⟨nm, ad, len, cap, h1, h2, h3⟩
            have HFE : Hid (rdepE (lastN (rows[kk].2.map (·.1))) ln ≠ 0 → FR.1 = rdepE (lastN (rows[kk].2.map (·.1))) ln) := fun her => by rw [hrf]; exact rd_err hix hak (by rw [HPG.out]) her
            have HFS : Hid (rdepE (lastN (rows[kk].2.map (·.1))) ln = 0 → ((lineDp ln).nm.size ≠ 0 ∧ (lineDp ln).nm.size ≤ 16) ∧ ∀ v u, FR = readF X kk (plainR (rows.set kk (v, rows[kk].2 ++ [(lineDp ln, u)]))) (Lns.drop (k + 1))) := fun her => ⟨rd_name her, fun v u => by rw [hrf, plainR_set hkr]; exact rd_step hix hak (by rw [HPG.out]; exact her)⟩
            have HNN := hide3 hrkk.2
            have hlen := hrkk.1
            have HRD2 : Hid (∀ w1 (q : Option ByteArray) (last : ByteArray), Sc.WordsAt w1 (.slice (some ⟨gw, ow, none⟩) nl cw) ln → last = q.getD ⟨#[]⟩ → (∀ s, q = some s → s.size ≠ 0) → last.size ≤ 1000000 → Calls Tryz.prog 28 #[.slice (some ⟨gw, ow, none⟩) nl cw, .string last] w1 (DepQ w1 (Sc.ba (ln.getD 1 [])) (ln.drop 2) (rdepE q ln))) := fun w1 q last h1 => HRD.out w1 ln _ q last h1 HLM.out
            clear hrf HPG hrkk
            generalize Sc.ba (ln.getD 1 []) = n1 at *
            go_wp2_with fail
            refine wp_region_keep HK.out (by kernel_rfl) (by kernel_rfl) (by first | exact HO.out | exact HK.out.drew HO.out) ?_
            intro C hin hout
            have HIN := hide3 hin
            have HOUT := hide3 hout
            clear hin hout HO
            repeat
              (with_reducible refine wpQuiet_step (fun K hK => ?_)
               go_simp
               first
                 | (refine hK _ ?_; clear hK K)
                 | (apply Exists.intro; refine ⟨fun w1 hC => ?_, hK _ ?_⟩; (focus ((first | (exact rfl) | (obtain ⟨hkn, ⟨cl, cl2⟩, ⟨c0, c02⟩, ⟨cx, cx2⟩, hwa⟩ := HOUT.out w1 hC; clear hC; go_simp; first | done | exact rfl)); done)); clear hK K))
            refine wpQuiet_nil ?_
            intro wn hC
            have HO := hide3 (HOUT.out _ hC)
            clear hC HIN HOUT C
            obtain ⟨hkn, ⟨cl, cl2⟩, ⟨c0, c02⟩, ⟨cx, cx2⟩, hwa⟩ := HO.out
            have cN := hkn.2.cell kk hkr
            obtain ⟨adk, capk, hvk⟩ := (hkn.2.2.1 _ (List.getElem_mem hkr)).len
            have HVK := hide3 hvk
            have HRO := hide3 (hkn.2.2.1 _ (List.getElem_mem hkr))
            rw [hvk] at cN
            by_cases hn0 : rows[kk].2.length = 0
            · have hnil : rows[kk].2 = [] := List.eq_nil_of_length_eq_zero hn0
              have HD2 := hide3 (HRD2.out wn none ⟨#[]⟩ hwa rfl (fun s h => by cases h) (by decide))
              rw [show lastN (rows[kk].2.map (·.1)) = none by rw [hnil]; rfl] at HFE HFS
              have HN0 := hide3 hn0
              rw [hn0] at cN
              have HLL : Hid (rows[kk].2.length ≤ 5001) := by unfold Hid; omega
              clear hnil hn0 hvk hlen
              generalize rdepE none ln = de at *
              by_cases her : de = 0
              · subst her
                have HS2 := hide3 (HFS.out rfl)
                have HNM2 := hide3 HS2.out.1
                go_upto_region 18 with (go_at_call 28; refine HD2.out.mono ?_; rintro e w5 hdq; obtain ⟨nm5, ad5, len5, cap5, rfl, hb5, ho5⟩ := HDQ.out _ _ _ _ hdq; obtain ⟨hnm5, hou5⟩ := ho5 rfl; subst nm5; have HKC : Hid (KX w w.heap.size rows (w5.alloc (.cells #[.string (n1), .slice ad5 len5 cap5] 60))) := keepKX _ _ _ _ _ (keepKX _ _ _ _ _ HO.out.1 hb5) (boxB _ _); have HOU : Hid (OwnS (w5.alloc (.cells #[.string (n1), .slice ad5 len5 cap5] 60)) w.heap.size (.slice ad5 len5 cap5) (lineDp ln).rg) := (hou5.base (HO.out.1.1.size)).below (boxB _ _); have HBX : Hid (BxD (w5.alloc (.cells #[.string (n1), .slice ad5 len5 cap5] 60)) w5.heap.size (n1) (.slice ad5 len5 cap5)) := BxD.new rfl _ _; clear hb5 hdq ho5 hou5)
                generalize w5.alloc (.cells #[.string (n1), .slice ad5 len5 cap5] 60) = wc at *
                generalize w5.heap.size = M at *
                have erk : rows[kk]! = rows[kk] := getElem!_pos rows kk hkr
                have hNk : wc.cell? ⟨w.heap.size, kk, none⟩ = some (.slice adk 0 capk) := by rw [HKC.out.2.cell kk hkr, HVK.out, HN0.out]
                obtain ⟨m0, m1, m2⟩ := HBX.out
                have hNk' : (wc.alloc (.cells #[.string (n1), .slice ad5 len5 cap5] 60)).cell? ⟨w.heap.size, kk, none⟩ = some (.slice adk 0 capk) := ((boxB wc _).cell (p := ⟨w.heap.size, kk, none⟩) (HKC.out.2.size).2).trans hNk
                generalize lineDp ln = LD at *
                go_region_law (refine step_appD (w := w) (wx := wc.drew) (N := w.heap.size) (rows := rows) (k := kk) (d := LD) (u := .slice ad5 len5 cap5) rfl (.tmp 83) (.tmp 85) rfl (vk := .slice adk 0 capk) rfl hkr (by rw [erk, HVK.out, HN0.out]) ((keepKX _ _ _).drew HKC.out) (HOU.out.below (Below.refl _ _).drew) HLD.out.1 rfl rfl (by rw [erk]; have := HLL.out; have := HN0.out; omega) ?_; intro v6 w6 hak6; obtain ⟨hk6, n0, n1, ad6, len6, cap6, rfl⟩ := hak6; rw [erk] at hk6 n0; rw [HVK.out, HN0.out] at n0; have HK6 := hide3 hk6; clear hk6)
                all_goals go_wp2
                all_goals exact ⟨⟨k + 1, kk, _, by omega, by go_num, rfl, (List.length_set ..).trans hrl, (fun r hr => by
                  rcases List.mem_or_eq_of_mem_set hr with h | rfl
                  · exact ⟨Nat.le_succ_of_le (HRK.out r h).1, (HRK.out r h).2⟩
                  · refine ⟨?_, fun p hp => ?_⟩
                    · simp only [List.length_append, List.length_cons, List.length_nil]
                      exact Nat.succ_le_succ (HRK.out _ (List.getElem_mem hkr)).1
                    · rcases List.mem_append.1 hp with hp | hp
                      · exact HNN.out p hp
                      · obtain rfl := List.mem_singleton.1 hp
                        exact HNM2.out), HK6.out, HS2.out.2 _ _, by omega⟩, by simp [intOf]; omega⟩
              · have HR := hide3 (HFE.out her)
                have hde : (de == 0) = false := by simpa using her
                go_wp2_with (go_at_call 28; refine HD2.out.mono ?_; rintro e w5 hdq; obtain ⟨nm5, ad5, len5, cap5, rfl, hb5, ho5⟩ := HDQ.out _ _ _ _ hdq; have HKC : Hid (Below w.heap.size w (w5.alloc (.cells #[.string nm5, .slice ad5 len5 cap5] 60))) := below_then (below_then HO.out.1.1 hb5) (boxB _ _); clear hb5 hdq ho5)
                exact HER.out de _ HR.out her HKC.out
            · obtain ⟨m, hm⟩ : ∃ m, rows[kk].2.length = m + 1 := ⟨rows[kk].2.length - 1, by omega⟩
              obtain ⟨gD, capD, p, hve, hcD, hpm, cD, hgD, hlast⟩ := HRO.out.last hm
              have hve2 := hve
              rw [hvk, hm] at hve2
              simp only [Value.slice.injEq, true_and] at hve2
              obtain ⟨rfl, rfl⟩ := hve2
              have HLS := hide3 (HNN.out p hpm)
              rw [hlast] at HFE HFS
              rw [hm] at cN
              have hm5 : m ≤ 5000 := by omega
              have HN0 : Hid (rows[kk].2.length = m + 1) := hm
              clear hm hlen hve hvk hn0
              generalize hLL : m + 1 = LL at *
              have w1m : IntKind.i64.wrap ((LL : Int) - 1) = (m : Int) := by rw [IntKind.wrap_i64]; omega
              have hmi : (m : Int) < (LL : Int) := by omega
              have hmN : m < LL := by omega
              have hpos1 : (0 : Int) < (LL : Int) := by omega
              have hpos2 : 0 < LL := by omega
              have HLL : Hid (LL ≤ 5001) := by unfold Hid; omega
              clear hLL hm5
              have HK2 : Hid (KeepP fun w1 => KX w w.heap.size rows w1 ∧ Sc.CellK w1 gl (ol + k) (.slice (some ⟨gw, ow, none⟩) nl cw) ∧ Sc.CellK w1 w.heap.size kk (.slice (some ⟨gD, 0, none⟩) LL capk) ∧ Sc.CellK w1 gD (m * 2) (.string p.1.nm) ∧ Sc.WordsAt w1 (.slice (some ⟨gw, ow, none⟩) nl cw) ln) := (keepKX _ _ _).and ((Sc.keepCell _ _ _).and ((Sc.keepCell _ _ _).and ((Sc.keepCell _ _ _).and (fun _ _ h hb => h.below hb))))
              have HO2 : Hid (KX w w.heap.size rows wn ∧ Sc.CellK wn gl (ol + k) (.slice (some ⟨gw, ow, none⟩) nl cw) ∧ Sc.CellK wn w.heap.size kk (.slice (some ⟨gD, 0, none⟩) LL capk) ∧ Sc.CellK wn gD (m * 2) (.string p.1.nm) ∧ Sc.WordsAt wn (.slice (some ⟨gw, ow, none⟩) nl cw) ln) := ⟨hkn, ⟨cl, cl2⟩, ⟨cN, hkn.2.size.2⟩, ⟨cD, hgD⟩, hwa⟩
              clear HK HO
              have HK := hide3 HK2.out
              have HO := hide3 HO2.out
              clear HK2 HO2 hwa c0 c02 cx cx2 hgD cD
              go_upto_region 14 with fail
              clear hkn cl cl2 cN
              refine wp_region_keep HK.out (by kernel_rfl) (by kernel_rfl) (by first | exact HO.out | exact HK.out.drew HO.out) ?_
              intro C hin hout
              have HIN := hide3 hin
              have HOUT := hide3 hout
              clear hin hout HO
              repeat
                (with_reducible refine wpQuiet_step (fun K hK => ?_)
                 go_simp
                 first
                   | (refine hK _ ?_; clear hK K)
                   | (apply Exists.intro; refine ⟨fun w1 hC => ?_, hK _ ?_⟩; (focus ((first | (exact rfl) | (obtain ⟨hkn, ⟨cl, cl2⟩, ⟨cN, cN2⟩, ⟨cD, hgD⟩, hwa⟩ := HOUT.out w1 hC; clear hC; go_simp; first | done | exact rfl)); done)); clear hK K))
              refine wpQuiet_nil ?_
              intro wm hC
              have HO := hide3 (HOUT.out _ hC)
              clear hC HIN HOUT C
              obtain ⟨hkn, ⟨cl, cl2⟩, ⟨cN, cN2⟩, ⟨cD, hgD⟩, hwa⟩ := HO.out
              have HD2 := hide3 (HRD2.out wm (some p.1.nm) p.1.nm hwa rfl (fun s h => by cases h; exact HLS.out.1) (by have := HLS.out.2; omega))
              generalize rdepE (some p.1.nm) ln = de at *
              by_cases her : de = 0
              · subst her
                have HS2 := hide3 (HFS.out rfl)
                have HNM2 := hide3 HS2.out.1
                go_upto_region 18 with (go_at_call 28; refine HD2.out.mono ?_; rintro e w5 hdq; obtain ⟨nm5, ad5, len5, cap5, rfl, hb5, ho5⟩ := HDQ.out _ _ _ _ hdq; obtain ⟨hnm5, hou5⟩ := ho5 rfl; subst nm5; have HKC : Hid (KX w w.heap.size rows (w5.alloc (.cells #[.string (n1), .slice ad5 len5 cap5] 60))) := keepKX _ _ _ _ _ (keepKX _ _ _ _ _ HO.out.1 hb5) (boxB _ _); have HOU : Hid (OwnS (w5.alloc (.cells #[.string (n1), .slice ad5 len5 cap5] 60)) w.heap.size (.slice ad5 len5 cap5) (lineDp ln).rg) := (hou5.base (HO.out.1.1.size)).below (boxB _ _); have HBX : Hid (BxD (w5.alloc (.cells #[.string (n1), .slice ad5 len5 cap5] 60)) w5.heap.size (n1) (.slice ad5 len5 cap5)) := BxD.new rfl _ _; clear hb5 hdq ho5 hou5)
                generalize w5.alloc (.cells #[.string (n1), .slice ad5 len5 cap5] 60) = wc at *
                generalize w5.heap.size = M at *
                have erk : rows[kk]! = rows[kk] := getElem!_pos rows kk hkr
                have hNk : wc.cell? ⟨w.heap.size, kk, none⟩ = some (.slice (some ⟨gD, 0, none⟩) LL capk) := by rw [HKC.out.2.cell kk hkr, HVK.out, HN0.out]
                obtain ⟨m0, m1, m2⟩ := HBX.out
                have hNk' : (wc.alloc (.cells #[.string (n1), .slice ad5 len5 cap5] 60)).cell? ⟨w.heap.size, kk, none⟩ = some (.slice (some ⟨gD, 0, none⟩) LL capk) := ((boxB wc _).cell (p := ⟨w.heap.size, kk, none⟩) (HKC.out.2.size).2).trans hNk
                generalize lineDp ln = LD at *
                go_region_law (refine step_appD (w := w) (wx := wc.drew) (N := w.heap.size) (rows := rows) (k := kk) (d := LD) (u := .slice ad5 len5 cap5) rfl (.tmp 83) (.tmp 85) rfl (vk := .slice (some ⟨gD, 0, none⟩) LL capk) rfl hkr (by rw [erk, HVK.out, HN0.out]) ((keepKX _ _ _).drew HKC.out) (HOU.out.below (Below.refl _ _).drew) HLD.out.1 rfl rfl (by rw [erk]; have := HLL.out; have := HN0.out; omega) ?_; intro v6 w6 hak6; obtain ⟨hk6, n0, n1, ad6, len6, cap6, rfl⟩ := hak6; rw [erk] at hk6 n0; rw [HVK.out, HN0.out] at n0; have HK6 := hide3 hk6; clear hk6)
                all_goals go_wp2
                all_goals exact ⟨⟨k + 1, kk, _, by omega, by go_num, rfl, (List.length_set ..).trans hrl, (fun r hr => by
                  rcases List.mem_or_eq_of_mem_set hr with h | rfl
                  · exact ⟨Nat.le_succ_of_le (HRK.out r h).1, (HRK.out r h).2⟩
                  · refine ⟨?_, fun p hp => ?_⟩
                    · simp only [List.length_append, List.length_cons, List.length_nil]
                      exact Nat.succ_le_succ (HRK.out _ (List.getElem_mem hkr)).1
                    · rcases List.mem_append.1 hp with hp | hp
                      · exact HNN.out p hp
                      · obtain rfl := List.mem_singleton.1 hp
                        exact HNM2.out), HK6.out, HS2.out.2 _ _, by omega⟩, by simp [intOf]; omega⟩
              · have HR := hide3 (HFE.out her)
                have hde : (de == 0) = false := by simpa using her
                go_wp2_with (go_at_call 28; refine HD2.out.mono ?_; rintro e w5 hdq; obtain ⟨nm5, ad5, len5, cap5, rfl, hb5, ho5⟩ := HDQ.out _ _ _ _ hdq; have HKC : Hid (Below w.heap.size w (w5.alloc (.cells #[.string nm5, .slice ad5 len5 cap5] 60))) := below_then (below_then HO.out.1.1 hb5) (boxB _ _); clear hb5 hdq ho5)
                exact HER.out de _ HR.out her HKC.out
          · have hq : ((Sc.ba X[kk]).toList == (Sc.ba p0).toList) = false := by rw [ba_toList, ba_toList, beq_eq_false_iff_ne]; exact he
            have HN2 : Hid (∀ j (hj : j < X.length), a ≤ j → j < kk + 1 → X[j] ≠ p0) := fun j hj h1 h2 => by
              by_cases hjk : j = kk
              · subst hjk; exact he
              · exact HNT.out j hj h1 (by omega)
            clear hrf
            go_wp2_with fail
            refine wp_region_keep HK.out (by kernel_rfl) (by kernel_rfl) (by first | exact HO.out | exact HK.out.drew HO.out) ?_
            intro C hin hout
            have HIN := hide3 hin
            have HOUT := hide3 hout
            clear hin hout HO
            repeat
              (with_reducible refine wpQuiet_step (fun K hK => ?_)
               go_simp
               first
                 | (refine hK _ ?_; clear hK K)
                 | (apply Exists.intro; refine ⟨fun w1 hC => ?_, hK _ ?_⟩; (focus ((first | (exact rfl) | (obtain ⟨hkn, ⟨cl, cl2⟩, ⟨c0, c02⟩, ⟨cx, cx2⟩, hwa⟩ := HOUT.out w1 hC; clear hC; go_simp; first | done | exact rfl)); done)); clear hK K))
            refine wpQuiet_nil ?_
            intro wn hC
            have HO := hide3 (HOUT.out _ hC)
            clear hC HIN HOUT C
            obtain ⟨hkn, ⟨cl, cl2⟩, ⟨c0, c02⟩, ⟨cx, cx2⟩, hwa⟩ := HO.out
            go_wp2
            exact ⟨⟨kk + 1, by omega, by omega, by go_num, HN2.out, HO.out.1⟩, by simp [intOf]; omega⟩
        · obtain rfl : kk = X.length := by omega
          have HR : Hid (FR.1 = 22) := by
            unfold Hid
            rw [hrf]
            by_cases h3 : ln.length < 3
            · exact readF_short h3
            · exact readF_word h3 (by rw [hp0]; exact idxW_not fun j hj h1 => HNT.out j hj h1 hj)
          have HK : Hid (KeepP fun w1 => KX w w.heap.size rows w1) := keepKX _ _ _
          have HO : Hid (KX w w.heap.size rows wr) := hkq
          have hkli : ¬ ((X.length : Int) < (X.length : Int)) := by omega
          clear cl c0 hwa hkq hrf
          go_wp2_with fail
          refine wp_region_keep HK.out (by kernel_rfl) (by kernel_rfl) (by first | exact HO.out | exact HK.out.drew HO.out) ?_
          intro C hin hout
          have HIN := hide3 hin
          have HOUT := hide3 hout
          clear hin hout HO
          repeat
            (with_reducible refine wpQuiet_step (fun K hK => ?_)
             go_simp
             first
               | (refine hK _ ?_; clear hK K)
               | (apply Exists.intro; refine ⟨fun w1 hC => ?_, hK _ ?_⟩; (focus ((first | (exact rfl) | (obtain hkn := HOUT.out w1 hC; clear hC; go_simp; first | done | exact rfl)); done)); clear hK K))
          refine wpQuiet_nil ?_
          intro wn hC
          have HO := hide3 (HOUT.out _ hC)
          clear hC HIN HOUT C
          obtain hkn := HO.out
          go_wp2
          exact HER.out 22 _ HR.out (by decide) HO.out.1
    · have hke : k = Lns.length := by omega
      subst hke
      rw [List.drop_length] at hrf
      have HR : Hid (FR = (0, plainR rows)) := by unfold Hid; rw [hrf]; rfl
      clear hrf hrk hkx
      go_wp2
      exact HOK.out rows _ hrl HKX.out HR.out
end Go.Proofs.YthoacfmfpbngkaaGreatDoor
namespace Go.Proofs.YthoacfmfpbngkaaGreatDoor
open Go.RowKit
set_option maxRecDepth 100000

set_option maxHeartbeats 6400000 in
theorem Write_any {w1 wz : World} {l : Sc.Bs} {v : Value} {L : List Dp} {x : ByteArray} (h : TW w1 l wz) (hd : DepsAt w1 v L) (hm : mayD L = true) (he : Env w1) (hf : FL w1) (hx : x.size ≤ 16) (hl : l.length ≤ 1000000) :
    Calls Tryz.prog 44 #[.pointer (some ⟨w1.heap.size, 0, none⟩), .string x, v] wz fun e w' => e = .returned (.tuple #[]) ∧ TW w1 (l ++ listT x L) w' ∧ FarB w1.heap.size wz w' := by
  have HD : Hid (∀ w', Below w1.heap.size w1 w' → DepsAt w' v L) := fun w' hb => hd.below hb
  have HSP : Hid (∀ w2 u (R : List Sp), Below w1.heap.size w1 w2 → rangeB R = true → SpansC w2 u R → Calls Tryz.prog 69 #[u] w2 fun e w' => e = .returned (.string (prS R)) ∧ Below w2.heap.size w2 w') := fun w2 u R hb hr hu => sPrint_sp hr hu (he.below hb) (hf.below hb)
  have HAll : Hid (∀ d ∈ L, d.nm.size ≤ 16 ∧ rangeB d.rg = true) := by
    have := hm
    unfold mayD at this
    rw [Bool.and_eq_true] at this
    exact rise_all this.2
  have HLN := hide3 (list_len hx hm)
  have h16 := (short_may hm).1
  have HPU : Hid (∀ (l1 : Sc.Bs) w2 (s : ByteArray) (N : Nat) (bx : Obj), (TW w1 l1 w2 ∧ FarB w1.heap.size wz w2) ∧ (w2.heap[N]? = some bx ∧ (∃ cs, bx = .cells cs 60 (0, 0)) ∧ w1.heap.size < N) → l1.length ≤ 2000000 → s.size ≤ 1000000 → Calls Tryz.prog 41 #[.pointer (some ⟨w1.heap.size, 0, none⟩), .string s] w2 fun e w' => e = .returned (.tuple #[.int .i64 s.size, .nilIface]) ∧ (TW w1 (l1 ++ s.data.toList) w' ∧ FarB w1.heap.size wz w') ∧ (w'.heap[N]? = some bx ∧ (∃ cs, bx = .cells cs 60 (0, 0)) ∧ w1.heap.size < N)) := fun l1 w2 s N bx h1 h2 h3 => by
    refine (h1.1.1.put s (by omega) h3).mono ?_
    rintro e w' ⟨rfl, g1, g2⟩
    obtain ⟨cs, rfl⟩ := h1.2.2.1
    exact ⟨rfl, ⟨g1, h1.1.2.trans g2⟩, g2 _ _ _ _ h1.2.1 (by decide) (by have := h1.2.2.2; omega), ⟨cs, rfl⟩, h1.2.2.2⟩
  have HT0 : Hid (TW w1 l wz ∧ FarB w1.heap.size wz wz) := ⟨h, FarB.refl _ _⟩
  obtain ⟨ad, cap, rfl, hcp⟩ := hd.len
  clear hd hm he hf h
  go_enter Tryz.func44, Tryz.ntmps44
  go_wp2_with fail
  go_loopw [10] (fun j wq => ∃ m : Nat, m ≤ L.length ∧ j = .int .i64 m ∧ TW w1 (l ++ listT x (L.take m)) wq ∧ FarB w1.heap.size wz wq) (fun j _ => L.length - (intOf j).toNat)
  case atStart => exact ⟨0, Nat.zero_le _, rfl, by have := HT0.out; simpa [listT] using this⟩
  case round =>
    clear HT0
    obtain ⟨m, hm, rfl, htq⟩ := hrel
    have HTQ := hide3 htq
    by_cases hlt : m < L.length
    · obtain ⟨ad', cap', e, _, hcs⟩ := HD.out wr htq.1.2
      cases e
      obtain ⟨g, o, rfl, hg, hcs⟩ : ∃ g o, ad = some ⟨g, o, none⟩ ∧ g < wr.heap.size ∧ ∀ i (h : i < L.length), ∃ u, DpIn wr g (o + i * 2) L[i] u := by
        rcases hcs with h | h
        · rw [h] at hlt; simp at hlt
        · exact h
      obtain ⟨u, p0, p1, ⟨hu, _⟩, p3⟩ := hcs m hlt
      obtain ⟨au, cu, rfl⟩ := hu.1.sl
      obtain ⟨hnz2, hrb⟩ := HAll.out _ (List.getElem_mem hlt)
      have hpz := prS_size hrb
      have HSN := hide3 (listT_snoc (x := x) hlt)
      have hpl : (l ++ listT x (L.take m)).length ≤ 1100000 := by
        have h1 := HLN.out m
        rw [List.length_append]
        omega
      have HUS : Hid (SpansC (wr.alloc (.cells #[.string L[m].nm, .slice au L[m].rg.length cu] 60)) (.slice au L[m].rg.length cu) L[m].rg) := ⟨hu.1.below (boxB _ _), hu.2⟩
      have HUB : Hid (g < wr.heap.size) := hg
      have HSPd := hide3 (fun w' (hb : Below w1.heap.size w1 w') (hc : SpansC w' (.slice au L[m].rg.length cu) L[m].rg) => HSP.out w' _ _ hb hrb hc)
      have HO0 : Hid ((TW w1 (l ++ listT x (L.take m)) (wr.alloc (.cells #[.string L[m].nm, .slice au L[m].rg.length cu] 60)) ∧ FarB w1.heap.size wz (wr.alloc (.cells #[.string L[m].nm, .slice au L[m].rg.length cu] 60))) ∧ ((wr.alloc (.cells #[.string L[m].nm, .slice au L[m].rg.length cu] 60)).heap[wr.heap.size]? = some (.cells #[.string L[m].nm, .slice au L[m].rg.length cu] 60 (0, 0)) ∧ (∃ cs, (Obj.cells #[.string L[m].nm, .slice au L[m].rg.length cu] 60 (0, 0)) = .cells cs 60 (0, 0)) ∧ w1.heap.size < wr.heap.size)) := by
        refine ⟨⟨keepTW _ _ _ _ htq.1 (boxB _ _), htq.2.trans (FarB.below (boxB _ _))⟩, ?_, ⟨_, rfl⟩, htq.1.far⟩
        show (wr.heap.push _)[wr.heap.size]? = _
        rw [Array.getElem?_push, if_pos rfl]
      have HUK : Hid (KeepP fun w' => SpansC w' (.slice au L[m].rg.length cu) L[m].rg) := fun _ _ h hb => ⟨h.1.below hb, h.2⟩
      have HUW : Hid (∀ w', Below w1.heap.size w1 w' → SpansC w' (.slice au L[m].rg.length cu) L[m].rg) := fun w' hb => by
        obtain ⟨ad2, cap2, e2, _, hcs2⟩ := HD.out w' hb
        cases e2
        rcases hcs2 with h2 | ⟨g2, o2, e3, hg2, hcs2⟩
        · rw [h2] at hlt; simp at hlt
        · cases e3
          obtain ⟨u2, q0, q1, ⟨hu2, _⟩, q3⟩ := hcs2 m hlt
          obtain ⟨ad3, cap3, e4, _, hcs3⟩ := HD.out w1 (Below.refl _ _)
          cases e4
          rcases hcs3 with h4 | ⟨g4, o4, e5, hg4, hcs4⟩
          · rw [h4] at hlt; simp at hlt
          · cases e5
            obtain ⟨u5, r0, r1, _, _⟩ := hcs4 m hlt
            have t1 := (hb.cell (p := ⟨g, o + m * 2 + 1, none⟩) hg4).trans r1
            have t2 := (HTQ.out.1.2.cell (p := ⟨g, o + m * 2 + 1, none⟩) hg4).trans r1
            rw [q1] at t1
            rw [p1] at t2
            cases t1
            cases t2
            exact hu2
      clear hcs hu htq
      generalize prS L[m].rg = rt at *
      generalize L[m].rg.length = lu at *
      generalize L[m].nm = s at *
      generalize hlm : l ++ listT x (L.take m) = lm at *
      have HLM := hide3 hlm
      clear hlm
      have l1 : (lm ++ x.data.toList).length ≤ 1100016 := by rw [List.length_append, list_size]; omega
      have l2 : (lm ++ x.data.toList ++ [32]).length ≤ 1100017 := by rw [List.length_append]; simp at l1 ⊢; omega
      have l3 : (lm ++ x.data.toList ++ [32] ++ s.data.toList).length ≤ 1100033 := by rw [List.length_append, list_size]; omega
      have l4 : (lm ++ x.data.toList ++ [32] ++ s.data.toList ++ [32]).length ≤ 1100034 := by rw [List.length_append]; simp at l3 ⊢; omega
      have l5 : (lm ++ x.data.toList ++ [32] ++ s.data.toList ++ [32] ++ rt.data.toList).length ≤ 1200000 := by rw [List.length_append, list_size]; omega
      go_wp2_with (first
        | (have _h := HO0; go_at_call 41; refine (HPU.out _ _ x _ _ HO0.out (by omega) (by omega)).mono ?_; rintro e w2 ⟨rfl, ok⟩; have HO1 := hide3 ok; clear ok HO0)
        | (have _h := HO1; go_at_call 41; refine (HPU.out _ _ ⟨#[32]⟩ _ _ HO1.out (Nat.le_trans l1 (by decide)) (by decide)).mono ?_; rintro e w3 ⟨rfl, ok⟩; have HO2 := hide3 ok; clear ok HO1; have d0 : w3.cell? ⟨wr.heap.size, 0, none⟩ = some (.string s) := (by rw [Lib.cell_of_heap HO2.out.2.1]; rfl))
        | (have _h := HO2; go_at_call 41; refine (HPU.out _ _ s _ _ HO2.out (Nat.le_trans l2 (by decide)) (by omega)).mono ?_; rintro e w4 ⟨rfl, ok⟩; have HO3 := hide3 ok; clear ok HO2 d0)
        | (have _h := HO3; go_at_call 41; refine (HPU.out _ _ ⟨#[32]⟩ _ _ HO3.out (Nat.le_trans l3 (by decide)) (by decide)).mono ?_; rintro e w5 ⟨rfl, ok⟩; have HO4 := hide3 ok; clear ok HO3; have d1 : w5.cell? ⟨wr.heap.size, 1, none⟩ = some (.slice au lu cu) := (by rw [Lib.cell_of_heap HO4.out.2.1]; rfl))
        | (have _h := HO4; go_at_call 69; refine (HSPd.out _ HO4.out.1.1.2 (HUW.out _ HO4.out.1.1.2)).mono ?_; rintro e w6 ⟨rfl, ok⟩; have HO5 : Hid ((TW w1 (lm ++ x.data.toList ++ [32] ++ s.data.toList ++ [32]) w6 ∧ FarB w1.heap.size wz w6) ∧ (w6.heap[wr.heap.size]? = some (.cells #[.string s, .slice au lu cu] 60 (0, 0)) ∧ (∃ cs, (Obj.cells #[.string s, .slice au lu cu] 60 (0, 0)) = .cells cs 60 (0, 0)) ∧ w1.heap.size < wr.heap.size)) := ⟨⟨keepTW _ _ _ _ HO4.out.1.1 ok, HO4.out.1.2.trans (FarB.below ok)⟩, (ok.block wr.heap.size (Array.getElem?_eq_some_iff.1 HO4.out.2.1).1).trans HO4.out.2.1, HO4.out.2.2⟩; clear ok HO4 d1)
        | (have _h := HO5; go_at_call 41; refine (HPU.out _ _ rt _ _ HO5.out (Nat.le_trans l4 (by decide)) (by omega)).mono ?_; rintro e w7 ⟨rfl, ok⟩; have HO6 := hide3 ok; clear ok HO5)
        | (have _h := HO6; go_at_call 41; refine (HPU.out _ _ ⟨#[10]⟩ _ _ HO6.out (Nat.le_trans l5 (by decide)) (by decide)).mono ?_; rintro e w8 ⟨rfl, ok⟩; have HO7 := hide3 ok; clear ok HO6))
      refine ⟨⟨m + 1, by omega, by go_num, ?_, HO7.out.1.2⟩, by simp [intOf]; omega⟩
      have e : l ++ listT x (L.take (m + 1)) = lm ++ x.data.toList ++ [32] ++ s.data.toList ++ [32] ++ rt.data.toList ++ [10] := by rw [HSN.out, ← HLM.out]; unfold lineB; simp
      rw [e]
      exact HO7.out.1.1
    · have HTN : Hid (TW w1 (l ++ listT x L) wr ∧ FarB w1.heap.size wz wr) := by
        have := HTQ.out
        rw [List.take_of_length_le (by omega)] at this
        exact this
      clear htq
      go_wp2
      go_end0
      exact ⟨rfl, HTN.out.1, HTN.out.2⟩
end Go.Proofs.YthoacfmfpbngkaaGreatDoor
