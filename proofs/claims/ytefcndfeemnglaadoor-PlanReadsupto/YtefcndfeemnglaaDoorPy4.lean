/- The document's hex and word of package halyardref17. Conditions: sizes. -/
import Derived.Test.YtefcndfeemnglaaDoorPy3
import Derived.Laws.IdiomStrings
namespace Go.Proofs.YtefcndfeemnglaaDoor
open Go.RowKit Dk
set_option maxRecDepth 100000

/-- The sixteen digits. -/
def hexD : ByteArray := ⟨#[48, 49, 50, 51, 52, 53, 54, 55, 56, 57, 97, 98, 99, 100, 101, 102]⟩
def hexN (n : Nat) : UInt8 := hexD.data.toList.getD n 0
/-- Bytes in digits. -/
def hexL (l : List UInt8) : List UInt8 := l.flatMap fun b => [hexN (b.toNat / 16), hexN (b.toNat % 16)]
def hexT (s : ByteArray) : ByteArray := if (s.toList == []) = true then ⟨#[45]⟩ else ⟨(hexL s.data.toList).toArray⟩
/-- Bytes of one's own. -/
def byC (l : List UInt8) : List Value := l.map fun b => .int .u8 b.toNat
def OwnBy (w : World) (B : Nat) (v : Value) (l : List UInt8) : Prop := w.ownsRow B 5 1 v l.length (byC l)
theorem infoBy : (Tryd.prog.info? 5).map (fun i => (i.zero, i.size, i.bytes)) = some (some (.int .u8 0), 1, 1) := by kernel_rfl
theorem hexL_snoc (l : List UInt8) (b : UInt8) : hexL (l ++ [b]) = hexL l ++ [hexN (b.toNat / 16), hexN (b.toNat % 16)] := by unfold hexL; simp
theorem hexL_len (l : List UInt8) : (hexL l).length = 2 * l.length := by
  induction l with
  | nil => rfl
  | cons b l ih => unfold hexL at ih ⊢; rw [List.flatMap_cons, List.length_append, ih]; simp; omega

theorem wp_by {B : Nat} {wx : World} {v : Value} {l : List UInt8} {ops : Array Oper} {rest : List Oper} {o : Oper} {f : Act} {Q : Exit → Act → World → Prop}
    (hgd : o.guard = none) (s t : Operand) (ho : o.op = .call { callee := .builtin .append, args := #[s, t], argTypes := #[55, 55] }) (hs : f.eval s = v)
    (hown : OwnBy wx B v l) (hB : B ≤ wx.heap.size) (x : UInt8) {M : Nat} (hM : wx.heap.size = M) (hx : f.eval t = .slice (some ⟨M, 0, none⟩) 1 1) (hlen : l.length ≤ 1000000000)
    (h : ∀ v1 w1, OwnBy w1 B v1 (l ++ [x]) → wx.grownBy w1 v.ownBlock → wpList Tryd.prog ops Q rest (f.put o.dst v1) w1) :
    wpList Tryd.prog ops Q (o :: rest) f (wx.alloc (.cells #[.int .u8 x.toNat] 5)) := by
  subst hM
  obtain ⟨i0, hi, hz0, hz1, hz2⟩ := info_parts infoBy
  refine wpList_append_own _ hgd s t 55 ho B 5 i0 _ 1 1 Tryd.underlying55 hi hz0 hz1 hz2 rfl (by decide) v l.length _ hs (World.ownsRow.alloc hown _) ⟨wx.heap.size, 0, none⟩ 1 1 [.int .u8 x.toNat] hx rfl (World.news_of_block (cs := #[.int .u8 x.toNat]) (t := 5) (fr := (0, 0)) (by show (wx.heap.push _)[wx.heap.size]? = _; rw [Array.getElem?_push, if_pos rfl])) (by simp [Value.oneCell']) (by unfold maxLen; omega) (by omega) (by simp; omega) ?_
  intro v1 w1 h1 h2 _
  refine h v1 w1 ?_ (grown_pre ((Below.refl _ _).alloc (Nat.le_refl _) _) h2)
  unfold OwnBy byC
  rw [List.length_append, List.map_append]
  exact h1

/-- The word of a kind. -/
def wordP (k : Int) : ByteArray := if (k == 1) = true then ⟨#[117, 110, 108, 105, 110, 107]⟩ else if (k == 2) = true then ⟨#[114, 109, 100, 105, 114]⟩ else if (k == 3) = true then ⟨#[109, 107, 100, 105, 114]⟩ else ⟨#[112, 117, 116]⟩
set_option maxHeartbeats 800000 in
theorem word_any (k : Int) (w : World) : Calls Tryd.prog 28 #[.int .i64 k] w fun e w' => e = .returned (.string (wordP k)) ∧ w' = w := by
  unfold wordP
  cases h1 : (k == 1)
  · cases h2 : (k == 2)
    · cases h3 : (k == 3)
      all_goals
        go_enter Tryd.func28, Tryd.ntmps28
        go_wp2
        go_ret
        exact ⟨rfl, rfl⟩
    · go_enter Tryd.func28, Tryd.ntmps28
      go_wp2
      go_ret
      exact ⟨rfl, rfl⟩
  · go_enter Tryd.func28, Tryd.ntmps28
    go_wp2
    go_ret
    exact ⟨rfl, rfl⟩
theorem hexN_at {n : Nat} (h : n < 16) : hexN n = hexD[n]'(by show n < 16; exact h) := by
  unfold hexN
  rw [List.getD_eq_getElem?_getD, List.getElem?_eq_getElem (by show n < 16; exact h)]
  rfl
theorem by_text {w : World} {B : Nat} {v : Value} {l : List UInt8} (h : OwnBy w B v l) (h0 : 0 < l.length) : ∃ g cap, v = .slice (some ⟨g, 0, none⟩) l.length cap ∧ (convert 55 9 (.slice (some ⟨g, 0, none⟩) l.length cap)).run Tryd.prog w = .ok (.string ⟨l.toArray⟩) w := by
  have hr := h
  rcases h.2 with ⟨_, hn⟩ | ⟨g, cap, cur, rfl, _, _, _⟩
  · omega
  · refine ⟨g, cap, rfl, ?_⟩
    exact run_convert_bytes_back (P := Tryd.prog) w 55 9 5 ⟨g, 0, none⟩ cap l Tryd.underlying55 Tryd.underlying5 Tryd.underlying9 (fun j hj => by
      have := row_cells hr j (.int .u8 l[j].toNat) (by unfold byC; rw [List.getElem?_map, List.getElem?_eq_getElem hj]; rfl)
      rw [← this]
      congr 1
      unfold Addr.add
      simp
      exact fun e => e.symm)

set_option maxHeartbeats 4000000 in
theorem hex_any (s : ByteArray) (w : World) (hs : s.size ≤ 100000000) : Calls Tryd.prog 37 #[.string s] w fun e w' => e = .returned (.string (hexT s)) ∧ Below w.heap.size w w' := by
  cases he : (s.toList == [])
  · have HT : Hid (hexT s = ⟨(hexL s.data.toList).toArray⟩) := by unfold Hid hexT; rw [he]; rfl
    have hpos : 0 < s.size := by
      rw [← size_list]
      rw [toList_data] at he
      cases hl : s.data.toList with
      | nil => rw [hl] at he; cases he
      | cons a t => simp
    have HDG : Hid (∀ n (h : n < 16), hexN n = hexD[n]'(by show n < 16; exact h)) := fun n h => hexN_at h
    have hds : 16 ≤ hexD.size := by decide
    obtain ⟨D, hD⟩ : ∃ D, D = hexD := ⟨_, rfl⟩
    go_enter Tryd.func37, Tryd.ntmps37
    go_wp2_with fail
    rw [show (⟨#[48, 49, 50, 51, 52, 53, 54, 55, 56, 57, 97, 98, 99, 100, 101, 102]⟩ : ByteArray) = D from hD.symm]
    have HDG2 : Hid (∀ n (h : n < D.size), n < 16 → hexN n = D[n]) := fun n h h16 => by subst hD; exact hexN_at h16
    have hDs : 16 ≤ D.size := by rw [hD]; exact hds
    clear hD HDG hds
    go_loopw [4, 5] (fun v4 v5 wr => ∃ k : Nat, k ≤ s.size ∧ v5 = .int .i64 k ∧ OwnBy wr w.heap.size v4 (hexL (s.data.toList.take k)) ∧ Below w.heap.size w wr) (fun _ v5 _ => s.size - (intOf v5).toNat)
    case atStart => exact ⟨0, Nat.zero_le _, rfl, ⟨rfl, Or.inl ⟨rfl, rfl⟩⟩, Below.refl _ _⟩
    case round =>
      obtain ⟨k, hk, rfl, ho, hb⟩ := hrel
      have HO := hide3 ho
      have HB := hide3 hb
      have hLn : (hexL (s.data.toList.take k)).length ≤ 200000000 := by rw [hexL_len, List.length_take]; omega
      clear ho hb
      by_cases hlt : k < s.size
      · have HTK : Hid (hexL (s.data.toList.take (k + 1)) = hexL (s.data.toList.take k) ++ [hexN (s[k].toNat / 16), hexN (s[k].toNat % 16)]) := by
          unfold Hid
          rw [List.take_succ_eq_append_getElem (by rw [size_list]; exact hlt), hexL_snoc]
          rfl
        have hx : s[k].toNat < 256 := s[k].toNat_lt
        obtain ⟨q1, hq1⟩ : ∃ q, q = s[k].toNat / 16 := ⟨_, rfl⟩
        obtain ⟨q2, hq2⟩ : ∃ q, q = s[k].toNat % 16 := ⟨_, rfl⟩
        have b1 : q1 < D.size := by omega
        have b2 : q2 < D.size := by omega
        have w1' : IntKind.u8.wrap ((s[k].toNat : Int).tdiv 16) = (q1 : Int) := by
          rw [hq1, IntKind.wrap_u8, Int.tdiv_eq_ediv_of_nonneg (by omega)]; omega
        have w2' : IntKind.u8.wrap ((s[k].toNat : Int).tmod 16) = (q2 : Int) := by
          rw [hq2, IntKind.wrap_u8, Int.tmod_eq_emod_of_nonneg (by omega)]; omega
        have w3' : (s[k].toNat : Int).tdiv 16 = (q1 : Int) := by rw [hq1, Int.tdiv_eq_ediv_of_nonneg (by omega)]; omega
        have w4' : (s[k].toNat : Int).tmod 16 = (q2 : Int) := by rw [hq2, Int.tmod_eq_emod_of_nonneg (by omega)]; omega
        have w5' : (s[k].toNat : Int) / 16 = (q1 : Int) := by omega
        have w6' : (s[k].toNat : Int) % 16 = (q2 : Int) := by omega
        rw [← hq1, ← hq2, HDG2.out q1 b1 (by omega), HDG2.out q2 b2 (by omega)] at HTK
        have i1 : (q1 : Int) < (D.size : Int) := by omega
        have i2 : (q2 : Int) < (D.size : Int) := by omega
        have hki : (k : Int) < (s.size : Int) := by omega
        have HBS : Hid (w.heap.size ≤ wr.heap.size) := HB.out.size
        clear hq1 hq2
        generalize hexL (s.data.toList.take k) = old at *
        go_wp2_with (first
          | (have _t := HO7; at_builtin; refine wp_by (B := w.heap.size) (wx := w7) (v := v7) (l := old ++ [D[q1]]) rfl (.tmp 23) (.tmp 30) rfl rfl HO7.out (Nat.le_trans HBS.out HS7.out) D[q2] rfl rfl (by rw [List.length_append]; simp; omega) ?_; intro v8 w8 ho8 hg8; have HO8 := hide3 ho8; have HB8 := hide3 (HB7.out.grown hg8 HB7.out.size (fun q hq => (row_lt HO7.out hq).2)); clear ho8 hg8)
          | (at_builtin; refine wp_by (B := w.heap.size) (wx := wr) (v := u4) (l := old) rfl (.tmp 14) (.tmp 21) rfl rfl HO.out HBS.out D[q1] rfl rfl (by omega) ?_; intro v7 w7 ho7 hg7; have HO7 := hide3 ho7; have HS7 : Hid (wr.heap.size ≤ w7.heap.size) := hg7.size; have HB7 := hide3 (HB.out.grown hg7 HB.out.size (fun q hq => (row_lt HO.out hq).2)); clear ho7 hg7))
        refine ⟨⟨k + 1, by omega, by go_num, ?_, HB8.out⟩, by simp [intOf]; omega⟩
        rw [HTK.out]
        have := HO8.out
        rw [List.append_assoc] at this
        exact this
      · obtain rfl : k = s.size := by omega
        have hfull : s.data.toList.take s.size = s.data.toList := List.take_of_length_le (by rw [size_list]; exact Nat.le_refl _)
        rw [hfull] at HO
        obtain ⟨g, cp, rfl, hcv⟩ := by_text HO.out (by rw [hexL_len, size_list]; omega)
        rw [← HT.out] at hcv
        clear hfull
        generalize (hexL s.data.toList).length = nn at *
        go_wp2
        go_ret
        exact ⟨rfl, HB.out⟩
  · have HT : Hid (hexT s = ⟨#[45]⟩) := by unfold Hid hexT; rw [he]; rfl
    have HB0 : Hid (Below w.heap.size w w) := Below.refl _ _
    go_enter Tryd.func37, Tryd.ntmps37
    go_wp2
    go_ret
    rw [HT.out]
    exact ⟨rfl, HB0.out⟩
end Go.Proofs.YtefcndfeemnglaaDoor
