/- The document's data of package halyardref17. Conditions: sizes. -/
import Derived.Test.YtefcndfeemnglaaDoorPy6
namespace Go.Proofs.YtefcndfeemnglaaDoor
open Go.RowKit Dk
set_option maxRecDepth 100000

/-- The bytes of digits. -/
def dataL : List UInt8 → List UInt8
  | a :: b :: r => UInt8.ofNat (16 * digN a.toNat + digN b.toNat) :: dataL r
  | _ => []
theorem dataL_app : ∀ (n : Nat) (l m : List UInt8), l.length = 2 * n → dataL (l ++ m) = dataL l ++ dataL m
  | 0, [], m, _ => rfl
  | 0, _ :: _, _, h => by simp at h
  | n + 1, [], _, h => by simp at h
  | n + 1, [_], _, h => by simp at h; omega
  | n + 1, a :: b :: r, m, h => by
      simp only [List.cons_append, dataL]
      rw [dataL_app n r m (by simp at h; omega)]
theorem dataL_len : ∀ (n : Nat) (l : List UInt8), l.length = 2 * n → (dataL l).length = n
  | 0, [], _ => rfl
  | 0, _ :: _, h => by simp at h
  | n + 1, [], h => by simp at h
  | n + 1, [_], h => by simp at h; omega
  | n + 1, a :: b :: r, h => by
      simp only [dataL, List.length_cons]
      rw [dataL_len n r (by simp at h; omega)]
theorem dataL_short {l : List UInt8} (h : l.length < 2) : dataL l = [] := by
  match l, h with
  | [], _ => rfl
  | [_], _ => rfl
  | _ :: _ :: _, h => simp at h; omega
theorem dataL_take {l : List UInt8} {k : Nat} (h : 2 * k + 1 < l.length) : dataL (l.take (2 * (k + 1))) = dataL (l.take (2 * k)) ++ [UInt8.ofNat (16 * digN l[2 * k].toNat + digN l[2 * k + 1].toNat)] := by
  rw [show 2 * (k + 1) = 2 * k + 1 + 1 from by omega, List.take_succ_eq_append_getElem h, List.take_succ_eq_append_getElem (by omega : 2 * k < l.length), List.append_assoc, dataL_app k _ _ (by rw [List.length_take]; omega)]
  rfl
theorem dataL_full {l : List UInt8} {k : Nat} (h : 2 * k ≤ l.length) (h2 : l.length ≤ 2 * k + 1) : dataL (l.take (2 * k)) = dataL l := by
  conv => rhs; rw [← List.take_append_drop (2 * k) l]
  rw [dataL_app k _ _ (by rw [List.length_take]; omega), dataL_short (l := l.drop (2 * k)) (by rw [List.length_drop]; omega), List.append_nil]

theorem step_by {B : Nat} {wx : World} {v : Value} {l : List UInt8} {ops : Array Oper} {o : Oper} {f : Act} {K : Act → World → Prop} {Q : Exit → Act → World → Prop} {E : Prop}
    (hgd : o.guard = none) (s t : Operand) (ho : o.op = .call { callee := .builtin .append, args := #[s, t], argTypes := #[55, 55] }) (hs : f.eval s = v)
    (hown : OwnBy wx B v l) (hB : B ≤ wx.heap.size) (x : UInt8) {M : Nat} (hM : wx.heap.size = M) (hx : f.eval t = .slice (some ⟨M, 0, none⟩) 1 1) (hlen : l.length ≤ 1000000000) {z : Int} (hz : z = x.toNat)
    (h : ∀ v1 w1, OwnBy w1 B v1 (l ++ [x]) → wx.grownBy w1 v.ownBlock → K (f.put o.dst v1) w1) :
    if Region.wanted o (yielded ops f.tmps) = true then Oper.wp Tryd.prog o f (wx.alloc (.cells #[.int .u8 z] 5)) K Q else E := by
  have hw : Region.wanted o (yielded ops f.tmps) = true := by simp [Region.wanted, hgd]
  rw [if_pos hw]
  subst hM hz
  obtain ⟨i0, hi, hz0, hz1, hz2⟩ := info_parts infoBy
  obtain ⟨v1, w1, hr, hown1, hg1, _, _⟩ := run_append_own_at (P := Tryd.prog) (wx.alloc (.cells #[.int .u8 x.toNat] 5)) B 55 o.type 5 i0 _ 1 1 Tryd.underlying55 hi hz0 hz1 hz2 rfl (by decide) v l.length _ (World.ownsRow.alloc hown _) ⟨wx.heap.size, 0, none⟩ 1 1 [.int .u8 x.toNat] rfl
    (World.news_of_block (cs := #[.int .u8 x.toNat]) (t := 5) (fr := (0, 0)) (by show (wx.heap.push _)[wx.heap.size]? = _; rw [Array.getElem?_push, if_pos rfl])) (by simp [Value.oneCell']) (by unfold maxLen; omega) (by omega) (by simp; omega)
  unfold Oper.wp execOp
  simp only [ho, resolve, invoke, builtin, Sem.run_bind, Sem.run_pure, Result.andThen_ok, List.map_toArray, List.map_cons, List.map_nil, hs, hx, hr]
  refine h v1 w1 ?_ (grown_pre ((Below.refl _ _).alloc (Nat.le_refl _) _) hg1)
  unfold OwnBy byC
  rw [List.length_append, List.map_append]
  exact hown1

theorem nil_text (w : World) : (convert 55 9 (.slice none 0 0)).run Tryd.prog w = .ok (.string ⟨#[]⟩) w := by
  rw [run_convert_bytes_string w 55 9 5 none 0 0 Tryd.underlying55 Tryd.underlying5 Tryd.underlying9]
  rfl

set_option maxHeartbeats 4000000 in
theorem data_any (s : ByteArray) (w : World) (hs : s.size ≤ 1000000000) : Calls Tryd.prog 29 #[.string s] w fun e w' => e = .returned (.string ⟨(dataL s.data.toList).toArray⟩) ∧ Below w.heap.size w w' := by
  by_cases h2 : s.size < 2
  · have HT : Hid ((⟨(dataL s.data.toList).toArray⟩ : ByteArray) = ⟨#[]⟩) := by unfold Hid; rw [dataL_short (by rw [size_list]; exact h2)]
    have HB0 : Hid (Below w.heap.size w w) := Below.refl _ _
    have hni : ¬ ((1 : Int) < (s.size : Int)) := by omega
    have hcv : (convert 55 9 (.slice none 0 0)).run Tryd.prog w = .ok (.string ⟨#[]⟩) w := nil_text w
    go_enter Tryd.func29, Tryd.ntmps29
    go_wp2_with fail
    go_loopw [3, 4] (fun v3 v4 wr => v3 = .slice none 0 0 ∧ v4 = .int .i64 0 ∧ wr = w) (fun _ _ _ => 0)
    case atStart => exact ⟨rfl, rfl, rfl⟩
    case round =>
      obtain ⟨rfl, rfl, rfl⟩ := hrel
      go_wp2
      go_ret
      rw [HT.out]
      exact ⟨rfl, HB0.out⟩
  · have HDG : Hid (∀ (b : UInt8) W, Calls Tryd.prog 47 #[.int .u8 b.toNat] W fun e w' => e = .returned (.int .u8 (digN b.toNat)) ∧ w' = W) := fun b W => digit_any b.toNat b.toNat_lt W
    go_enter Tryd.func29, Tryd.ntmps29
    go_wp2_with fail
    go_loopw [3, 4] (fun v3 v4 wr => ∃ k : Nat, 2 * k ≤ s.size ∧ v4 = .int .i64 (2 * k : Nat) ∧ OwnBy wr w.heap.size v3 (dataL (s.data.toList.take (2 * k))) ∧ Below w.heap.size w wr) (fun _ v4 _ => s.size - (intOf v4).toNat)
    case atStart => exact ⟨0, Nat.zero_le _, rfl, ⟨rfl, Or.inl ⟨rfl, rfl⟩⟩, Below.refl _ _⟩
    case round =>
      obtain ⟨k, hk, rfl, ho, hb⟩ := hrel
      have HO := hide3 ho
      have HB := hide3 hb
      have hLn : (dataL (s.data.toList.take (2 * k))).length = k := dataL_len k _ (by rw [List.length_take, size_list]; omega)
      clear ho hb
      by_cases hlt : 2 * k + 1 < s.size
      · obtain ⟨j, hj⟩ : ∃ j, j = 2 * k := ⟨_, rfl⟩
        have HJ : Hid (j = 2 * k) := hj
        have hltj : j + 1 < s.size := by omega
        have hj1 : j < s.size := by omega
        have hkb : k ≤ 1000000000 := by omega
        have HTK : Hid (dataL (s.data.toList.take (2 * (k + 1))) = dataL (s.data.toList.take j) ++ [UInt8.ofNat (16 * digN (s[j]'hj1).toNat + digN (s[j + 1]'hltj).toNat)]) := by subst hj; exact dataL_take (by rw [size_list]; exact hlt)
        rw [← hj] at hk HO hLn ⊢
        clear hlt hj
        have HD1 : Hid (∀ W, Calls Tryd.prog 47 #[.int .u8 (s[j]'hj1).toNat] W fun e w' => e = .returned (.int .u8 (digN (s[j]'hj1).toNat)) ∧ w' = W) := fun W => HDG.out _ W
        have HD2 : Hid (∀ W, Calls Tryd.prog 47 #[.int .u8 (s[j + 1]'hltj).toNat] W fun e w' => e = .returned (.int .u8 (digN (s[j + 1]'hltj).toNat)) ∧ w' = W) := fun W => HDG.out _ W
        obtain ⟨d1, hd1⟩ : ∃ d, d = digN (s[j]'hj1).toNat := ⟨_, rfl⟩
        obtain ⟨d2, hd2⟩ : ∃ d, d = digN (s[j + 1]'hltj).toNat := ⟨_, rfl⟩
        have l1 : d1 < 16 := by rw [hd1]; exact digN_lt _
        have l2 : d2 < 16 := by rw [hd2]; exact digN_lt _
        rw [← hd1, ← hd2] at HTK
        rw [← hd1] at HD1
        rw [← hd2] at HD2
        have m1 : IntKind.u8.wrap (16 * (d1 : Int)) = 16 * (d1 : Int) := by rw [IntKind.wrap_u8]; omega
        have m2 : IntKind.u8.wrap (16 * (d1 : Int) + (d2 : Int)) = 16 * (d1 : Int) + (d2 : Int) := by rw [IntKind.wrap_u8]; omega
        have HX : Hid (16 * (d1 : Int) + (d2 : Int) = ((UInt8.ofNat (16 * d1 + d2)).toNat : Int)) := by
          unfold Hid
          rw [UInt8.toNat_ofNat', Nat.mod_eq_of_lt (by omega)]
          omega
        have hki : (j : Int) < (s.size : Int) := by omega
        have hki1 : (j : Int) + 1 < (s.size : Int) := by omega
        have hk0 : (0 : Int) ≤ (j : Int) := by omega
        have hw1 : IntKind.i64.wrap ((j : Int) + 1) = ((j + 1 : Nat) : Int) := by rw [IntKind.wrap_i64]; omega
        have hki2 : ((j + 1 : Nat) : Int) < (s.size : Int) := by omega
        have HBS : Hid (w.heap.size ≤ wr.drew.heap.size) := HB.out.size
        have HOD : Hid (OwnBy wr.drew w.heap.size u3 (dataL (s.data.toList.take j))) := HO.out
        have HBD : Hid (Below w.heap.size w wr.drew) := HB.out.drew
        clear hd1 hd2 HDG HO HB
        generalize dataL (s.data.toList.take j) = old at *
        go_wp2_with fail
        go_region_held3 (fun _ => True) (go_keep) (first
          | (refine step_by (B := w.heap.size) (M := wr.drew.heap.size) (wx := wr.drew) (v := u3) (l := old) rfl (.tmp 12) (.tmp 24) rfl rfl HOD.out HBS.out (UInt8.ofNat (16 * d1 + d2)) rfl rfl (by omega) HX.out ?_; intro v8 w8 ho hgr; have HO8 := hide3 ho; have HB8 := hide3 (HBD.out.grown hgr HBD.out.size (fun q hq => (row_lt HOD.out hq).2)); clear ho hgr)
          | (have _t := HM1; go_at_call 47; refine (HD2.out _).mono ?_; rintro e w6 ⟨rfl, hw6⟩; subst w6)
          | (go_at_call 47; refine (HD1.out _).mono ?_; rintro e w5 ⟨rfl, hw5⟩; subst w5; have HM1 : Hid True := trivial))
        all_goals go_wp2
        all_goals exact ⟨⟨k + 1, by have := HJ.out; omega, by have := HJ.out; go_num, by rw [HTK.out]; exact HO8.out, HB8.out⟩, by have := HJ.out; simp [intOf]; omega⟩
      · have hfull := dataL_full (l := s.data.toList) (k := k) (by rw [size_list]; exact hk) (by rw [size_list]; omega)
        rw [hfull] at HO hLn
        obtain ⟨g, cp, rfl, hcv⟩ := by_text HO.out (by omega)
        have hni : ¬ ((2 * k + 1 : Nat) : Int) < (s.size : Int) := by omega
        have hw1 : IntKind.i64.wrap (((2 * k : Nat) : Int) + 1) = ((2 * k + 1 : Nat) : Int) := by rw [IntKind.wrap_i64]; omega
        clear hfull
        rw [hLn] at hcv ⊢
        go_wp2
        go_ret
        exact ⟨rfl, HB.out⟩
end Go.Proofs.YtefcndfeemnglaaDoor
