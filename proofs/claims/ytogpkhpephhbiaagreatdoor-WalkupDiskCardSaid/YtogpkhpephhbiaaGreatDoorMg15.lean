/- Od2, Od3, Pn0, Gr0, Tw9, Tw10, laid in one text. -/
import Derived.Maps.AppendAt
import Derived.Laws.OwnMore
import Derived.Test.YtogpkhpephhbiaaGreatDoorMg14
namespace Go.Proofs.YtogpkhpephhbiaaGreatDoor
open Go.RowKit
set_option maxRecDepth 100000

/-- A name put behind names of one's own: what was there stays. -/
theorem wp_keepN {B : Nat} {wx : World} {n : Nat} {v : Value} {xs : List Value} {s0 : ByteArray} {ops : Array Oper} {rest : List Oper} {o : Oper} {f : Act} {Q : Exit → Act → World → Prop}
    (hgd : o.guard = none) (s t : Operand) (ho : o.op = .call { callee := .builtin .append, args := #[s, t], argTypes := #[53, 53] }) (hs : f.eval s = v)
    (hown : wx.ownsRow B 9 1 v n xs) (hB : B ≤ wx.heap.size) (hx : f.eval t = .slice (some ⟨wx.heap.size, 0, none⟩) 1 1) (hb : ((n + 1) + (n + 1) / 4 + 192) * 16 ≤ 281474976710656)
    (h : ∀ v1 w1, w1.ownsRow B 9 1 v1 (n + 1) (xs ++ [.string s0]) → w1.ownsRow B 9 1 v n xs → (wx.alloc (.cells #[.string s0] 9)).grownBy w1 v.ownBlock → wpList Tryz.prog ops Q rest (f.put o.dst v1) w1) :
    wpList Tryz.prog ops Q (o :: rest) f (wx.alloc (.cells #[.string s0] 9)) := by
  refine wpList_plain hgd fun K hK => ?_
  obtain ⟨i0, hi, hz0, hz1, hz2⟩ := Sc.info_parts Sc.infoStr
  obtain ⟨v1, w1, hr, h1, h2, h3⟩ := run_app_keep (wx.alloc (.cells #[.string s0] 9)) B 53 o.type 9 i0 _ 16 Tryz.underlying53 hi hz0 hz1 hz2 rfl v n xs (hown.alloc _) ⟨wx.heap.size, 0, none⟩ 1 (.string s0) (cell_one_new _ _ _) rfl hb (by unfold maxLen; omega) (by simp; omega)
  unfold Oper.wp execOp
  simp only [ho, resolve, invoke, builtin, Sem.run_bind, Sem.run_pure, Result.andThen_ok, List.map_toArray, List.map_cons, List.map_nil, hs, hx, hr]
  exact hK _ _ (h v1 w1 h1 h2 h3)

set_option maxHeartbeats 1600000 in
theorem isPackage_any {B : Nat} {w : World} {d mb n : Nat} {rv : Value} {x : Dk.Ab} (h : Dk.IsDisk B w d mb n rv x) (t : ByteArray) (ht : t.size ≤ 219902325555200) :
    Calls Tryz.prog 22 #[.pointer (some ⟨d, 0, none⟩), .string t] w fun e w' => e = .returned (.bool (Dk.kindD x.D (t ++ pkgS) == 1)) ∧ Below w.heap.size w w' := by
  have HK : Hid (∀ w1, Below w.heap.size w w1 → Calls Tryz.prog 11 #[.pointer (some ⟨d, 0, none⟩), .string (t ++ pkgS)] w1 fun e w' => e = .returned (.int .i64 (Dk.kindD x.D (t ++ pkgS))) ∧ Below w1.heap.size w1 w') := fun w1 hb => Dk.Kind_any (h.below hb) _ (by rw [app_size, pkgS_size]; unfold maxLen; omega)
  have e1 := fun W : World => run_string_add_sum (P := Tryz.prog) (w := W) t pkgS (by rw [pkgS_size]; omega)
  clear h
  generalize Dk.kindD x.D (t ++ pkgS) = kk at *
  unfold pkgS at HK e1
  go_enter Tryz.func22, Tryz.ntmps22
  go_wp2_with (go_at_call 11; refine (HK.out _ (Below.refl _ _)).mono ?_; rintro e w1 ⟨rfl, ok⟩; have HB := hide3 ok; clear ok)
  go_ret
  exact ⟨rfl, HB.out⟩

/-- How many names a text has. -/
theorem parse_len {t : ByteArray} (ht : t.size ≤ 140737488351232) {p : List ByteArray} (hp : parseV t.data.toList = some p) : p.length ≤ 14073748835123 ∧ namesB p = true := by
  rcases Classical.em (p = []) with rfl | h0
  · exact ⟨by simp, rfl⟩
  · have hn := (parse_names hp).resolve_left h0
    have h2 := text_parse hp
    have e : t.data.toList = textN p := by rw [← h2]; unfold textPa; rw [if_neg h0, if_pos hn]
    have h3 := textN_ge hn
    rw [← e, list_size] at h3
    exact ⟨by omega, hn⟩
theorem with_len {t : ByteArray} {p : List ByteArray} (hp : parseV t.data.toList = some p) {s : ByteArray} (hs : Sc.nameA s.data.toList = true) (k : Nat) : (textN (p.take k ++ [s])).length ≤ t.size + 25 := by
  have h1 := few_take (t := t) (by rw [hp]; rfl) (k := k)
  rw [hp] at h1
  have h2 : (textN (p.take k)).length ≤ t.size := h1
  have h3 := name_size hs
  rw [textN_snoc]
  simp only [List.length_append, list_size]
  have h9 : modS.size = 9 := rfl
  omega

set_option maxHeartbeats 3200000 in
theorem onDisk_walk {B : Nat} {w : World} {d mb n : Nat} {rv : Value} {x : Dk.Ab} (h : Dk.IsDisk B w d mb n rv x) (t s : ByteArray) (ht : t.size ≤ 140737488351232) {p : List ByteArray} (hp : parseV t.data.toList = some p) (hn : Sc.nameA s.data.toList = true) :
    Calls Tryz.prog 6 #[.pointer (some ⟨d, 0, none⟩), .string t, .string s] w fun e w' => e = .returned (odA (odN x.D p s p.length)) ∧ Below w.heap.size w w' := by
  obtain ⟨hpl, hnp⟩ := parse_len ht hp
  have HN : Hid (∀ w1, Calls Tryz.prog 20 #[.string s] w1 fun e w' => e = .returned (.bool true) ∧ w' = w1) := fun w1 => by have := Sc.Name_any s w1; rw [hn] at this; exact this
  have HPR : Hid (Calls Tryz.prog 19 #[.string t] w fun e w' => ∃ v, e = .returned (.tuple #[v, .bool true]) ∧ OwnPa w' w.heap.size v p ∧ Below w.heap.size w w') := by
    have := tParse_any t (by omega) (few_size ht) w
    rw [hp] at this
    exact this
  have HTX : Hid (∀ w1 v k, PathAt w1 v (p.take k ++ [s]) → Calls Tryz.prog 21 #[v] w1 fun e w' => e = .returned (.string (odT p s k)) ∧ Below w1.heap.size w1 w') := fun w1 v k hv => tText_w hv (by rw [List.length_append, List.length_take]; simp only [List.length_cons, List.length_nil]; omega) (fun j _ _ => by
    have h1 := textN_take (p.take k ++ [s]) j
    have h2 := with_len hp hn k
    omega)
  have HPK : Hid (∀ w1 k, Below w.heap.size w w1 → Calls Tryz.prog 22 #[.pointer (some ⟨d, 0, none⟩), .string (odT p s k)] w1 fun e w' => e = .returned (.bool (odK x.D p s k == 1)) ∧ Below w1.heap.size w1 w') := fun w1 k hb => isPackage_any (h.below hb) _ (by
    have h2 := with_len hp hn k
    rw [odT_eq hnp hn, textBA_size]
    omega)
  have HMI : Hid (odN x.D p s p.length = odN x.D p s (min p.length 409)) := od_min (show KeysOk x.D from h.keys) hnp hn
  clear h hn hnp hp ht
  go_enter Tryz.func6, Tryz.ntmps6
  go_wp2_with (first
    | (go_at_call 19; refine HPR.out.mono ?_; rintro e w1 ⟨v1, rfl, hov, hb1⟩; have HO1 := hide3 hov; have HB1 := hide3 hb1; obtain ⟨a1, c1, rfl, hc1⟩ := HO1.out.form; clear hov hb1)
    | (go_at_call 20; refine (HN.out _).mono ?_; rintro e w2 ⟨rfl, hw2⟩; subst w2))
  clear HPR HN
  have HOM : Hid (OwnPa w1 w.heap.size (.slice a1 (min p.length 409) c1) (p.take (min p.length 409))) := HO1.out.cut (Nat.min_le_left _ _)
  go_loopw [10] (fun vl wr => ∃ j : Nat, j ≤ p.length ∧ (∃ a c, vl = .slice a j c ∧ j ≤ c) ∧ OwnPa wr w.heap.size vl (p.take j) ∧ Below w.heap.size w wr ∧ odN x.D p s p.length = odN x.D p s j) (fun vl _ => match vl with | .slice _ n _ => n | _ => 0)
  case atStart =>
    have hmn : (min (p.length : Int) 409).toNat = min p.length 409 := by omega
    rw [hmn]
    exact ⟨min p.length 409, Nat.min_le_left _ _, ⟨a1, c1, rfl, by omega⟩, HOM.out, HB1.out, HMI.out⟩
  case round =>
    obtain ⟨j, hj, ⟨a, c, rfl, hac⟩, hown, hb, hst⟩ := hrel
    have hpl2 : (p.take j).length = j := by rw [List.length_take]; omega
    have HOW : Hid (wr.ownsRow w.heap.size 9 1 (.slice a j c) j (pcs (p.take j))) := (by have e := hown; unfold OwnPa at e; rw [hpl2] at e; exact e)
    have HB := hide3 hb
    have HST := hide3 hst
    have hBr : w.heap.size ≤ wr.heap.size := hb.size
    have HAF : Hid (∀ v5 w5, w5.ownsRow w.heap.size 9 1 v5 (j + 1) (pcs (p.take j) ++ [.string s]) → w5.ownsRow w.heap.size 9 1 (.slice a j c) j (pcs (p.take j)) → (wr.alloc (.cells #[.string s] 9)).grownBy w5 (Value.slice a j c).ownBlock → (PathAt w5 v5 (p.take j ++ [s]) ∧ OwnPa w5 w.heap.size (.slice a j c) (p.take j)) ∧ Below w.heap.size w w5) := fun v5 w5 h1 h2 h3 => by
      refine ⟨⟨OwnPa.at (B := w.heap.size) ?_, ?_⟩, HB.out.grown (grown_on (boxB _ _) h3) HB.out.size (fun q hq => (World.ownsRow.lt HOW.out q hq).1)⟩
      · unfold OwnPa
        rw [pcs_snoc, List.length_append, hpl2]
        exact h1
      · unfold OwnPa
        rw [hpl2]
        exact h2
    have hwide : ((j + 1) + (j + 1) / 4 + 192) * 16 ≤ 281474976710656 := by omega
    have HTC := hide3 (fun W v hv => HTX.out W v j hv)
    have HPC := hide3 (fun W (hW : Below w.heap.size w W) => HPK.out W j hW)
    have HHIT : Hid (odK x.D p s j = 1 → odN x.D p s p.length = some (odT p s j)) := fun h => by rw [HST.out]; exact od_hit h
    have HEND : Hid (odK x.D p s j ≠ 1 → j = 0 → odN x.D p s p.length = none) := fun h h2 => by rw [HST.out]; subst h2; exact od_end h
    have HGO : Hid (∀ i, j = i + 1 → odK x.D p s j ≠ 1 → odN x.D p s p.length = odN x.D p s i) := fun i h h2 => by rw [HST.out]; subst h; exact od_miss h2
    have HOC : Hid (∀ w6, OwnPa w6 w.heap.size (.slice a j c) (p.take j) → ∀ i, i ≤ j → OwnPa w6 w.heap.size (.slice a i c) (p.take i)) := fun w6 ho i hi => by
      have := ho.cut hi
      rw [List.take_take, Nat.min_eq_left hi] at this
      exact this
    generalize odT p s j = tx at *
    generalize odK x.D p s j = kf at *
    clear hown hb hst hpl2 HOM HMI HTX HPK
    by_cases hq : kf = 1
    · have HR := hide3 (HHIT.out hq)
      subst hq
      clear HHIT HEND HGO
      go_wp2_with (first
        | (have _h := HB6; go_at_call 22; refine (HPC.out _ HB6.out.2).mono ?_; rintro e w7 ⟨rfl, ok⟩; have HB7 := hide3 (below_then HB6.out.2 ok); clear ok HB6)
        | (have _h := HP5; go_at_call 21; refine (HTC.out _ _ HP5.out.1.1).mono ?_; rintro e w6 ⟨rfl, ok⟩; have HB6 : Hid (OwnPa w6 w.heap.size (.slice a j c) (p.take j) ∧ Below w.heap.size w w6) := ⟨HP5.out.1.2.below ok, below_then HP5.out.2 ok⟩; clear ok HP5)
        | (at_builtin; refine wp_keepN rfl _ _ rfl rfl HOW.out hBr rfl hwide ?_; intro v5 w5 h1 h2 h3; have HP5 := hide3 (HAF.out v5 w5 h1 h2 h3); clear h1 h2 h3))
      go_ret2
      exact ⟨by rw [HR.out]; rfl, HB7.out⟩
    · have hq2 : (kf == 1) = false := beq_eq_false_iff_ne.2 hq
      rw [hq2] at HPC
      clear HHIT hq2
      rcases Nat.eq_zero_or_pos j with h0 | h0
      · have HR := hide3 (HEND.out hq h0)
        subst h0
        clear HGO HEND hq
        go_wp2_with (first
          | (have _h := HB6; go_at_call 22; refine (HPC.out _ HB6.out.2).mono ?_; rintro e w7 ⟨rfl, ok⟩; have HB7 := hide3 (below_then HB6.out.2 ok); clear ok HB6)
          | (have _h := HP5; go_at_call 21; refine (HTC.out _ _ HP5.out.1.1).mono ?_; rintro e w6 ⟨rfl, ok⟩; have HB6 : Hid (OwnPa w6 w.heap.size (.slice a 0 c) (p.take 0) ∧ Below w.heap.size w w6) := ⟨HP5.out.1.2.below ok, below_then HP5.out.2 ok⟩; clear ok HP5)
          | (at_builtin; refine wp_keepN rfl _ _ rfl rfl HOW.out hBr rfl hwide ?_; intro v5 w5 h1 h2 h3; have HP5 := hide3 (HAF.out v5 w5 h1 h2 h3); clear h1 h2 h3))
        go_ret2
        exact ⟨by rw [HR.out]; rfl, HB7.out⟩
      · obtain ⟨i, rfl⟩ : ∃ i, j = i + 1 := ⟨j - 1, by omega⟩
        have HR := hide3 (HGO.out i rfl hq)
        have hic : i ≤ c := by omega
        clear HGO HEND hq
        go_wp2_with (first
          | (have _h := HB6; go_at_call 22; refine (HPC.out _ HB6.out.2).mono ?_; rintro e w7 ⟨rfl, ok⟩; have HB7 : Hid (OwnPa w7 w.heap.size (.slice a i c) (p.take i) ∧ Below w.heap.size w w7) := ⟨(HOC.out _ HB6.out.1 i (by omega)).below ok, below_then HB6.out.2 ok⟩; clear ok HB6)
          | (have _h := HP5; go_at_call 21; refine (HTC.out _ _ HP5.out.1.1).mono ?_; rintro e w6 ⟨rfl, ok⟩; have HB6 : Hid (OwnPa w6 w.heap.size (.slice a (i + 1) c) (p.take (i + 1)) ∧ Below w.heap.size w w6) := ⟨HP5.out.1.2.below ok, below_then HP5.out.2 ok⟩; clear ok HP5)
          | (at_builtin; refine wp_keepN rfl _ _ rfl rfl HOW.out hBr rfl hwide ?_; intro v5 w5 h1 h2 h3; have HP5 := hide3 (HAF.out v5 w5 h1 h2 h3); clear h1 h2 h3))
        exact ⟨⟨i, by omega, ⟨a, c, rfl, hic⟩, HB7.out.1, HB7.out.2, HR.out⟩, by simp⟩

theorem onDisk_no {w : World} (dv : Option Addr) (t s : ByteArray) (ht : t.size ≤ 140737488351232) (hno : dv = none ∨ parseV t.data.toList = none ∨ Sc.nameA s.data.toList = false) :
    Calls Tryz.prog 6 #[.pointer dv, .string t, .string s] w fun e w' => e = .returned (odA none) ∧ Below w.heap.size w w' := by
  have HN : Hid (∀ w1, Calls Tryz.prog 20 #[.string s] w1 fun e w' => e = .returned (.bool (Sc.nameA s.data.toList)) ∧ w' = w1) := Sc.Name_any s
  have HPR := hide3 (tParse_any t (by omega) (few_size ht) w)
  cases dv with
  | none =>
    clear hno
    go_enter Tryz.func6, Tryz.ntmps6
    go_wp2_with (first
      | (go_at_call 19; refine HPR.out.mono ?_; rintro e w1 ⟨v1, rfl, hov, hb1⟩; have HB1 := hide3 hb1; clear hov hb1)
      | (go_at_call 20; refine (HN.out _).mono ?_; rintro e w2 ⟨rfl, hw2⟩; subst w2))
    go_ret2
    exact ⟨rfl, HB1.out⟩
  | some a =>
    cases hp : (parseV t.data.toList).isSome with
    | false =>
      rw [hp] at HPR
      clear hno hp
      go_enter Tryz.func6, Tryz.ntmps6
      go_wp2_with (first
        | (go_at_call 19; refine HPR.out.mono ?_; rintro e w1 ⟨v1, rfl, hov, hb1⟩; have HB1 := hide3 hb1; clear hov hb1)
        | (go_at_call 20; refine (HN.out _).mono ?_; rintro e w2 ⟨rfl, hw2⟩; subst w2))
      go_ret2
      exact ⟨rfl, HB1.out⟩
    | true =>
      have hn : Sc.nameA s.data.toList = false := by
        rcases hno with h | h | h
        · cases h
        · rw [h] at hp; cases hp
        · exact h
      rw [hn] at HN
      rw [hp] at HPR
      clear hno hp hn
      go_enter Tryz.func6, Tryz.ntmps6
      go_wp2_with (first
        | (go_at_call 19; refine HPR.out.mono ?_; rintro e w1 ⟨v1, rfl, hov, hb1⟩; have HB1 := hide3 hb1; clear hov hb1)
        | (go_at_call 20; refine (HN.out _).mono ?_; rintro e w2 ⟨rfl, hw2⟩; subst w2))
      go_ret2
      exact ⟨rfl, HB1.out⟩

/-- OnDisk of package walkup. -/
theorem onDisk_any {B : Nat} {w : World} {d mb n : Nat} {rv : Value} {x : Dk.Ab} (h : Dk.IsDisk B w d mb n rv x) (t s : ByteArray) (ht : t.size ≤ 140737488351232) :
    Calls Tryz.prog 6 #[.pointer (some ⟨d, 0, none⟩), .string t, .string s] w fun e w' => e = .returned (odA (odV x.D t s)) ∧ Below w.heap.size w w' := by
  cases hp : parseV t.data.toList with
  | none =>
    rw [odV_no (Or.inl hp)]
    exact onDisk_no _ t s ht (Or.inr (Or.inl hp))
  | some p =>
    cases hn : Sc.nameA s.data.toList with
    | false =>
      rw [odV_no (Or.inr hn)]
      exact onDisk_no _ t s ht (Or.inr (Or.inr hn))
    | true =>
      rw [odV_yes hp hn]
      exact onDisk_walk h t s ht hp hn
end Go.Proofs.YtogpkhpephhbiaaGreatDoor
namespace Go.Proofs.YtogpkhpephhbiaaGreatDoor
open Go.RowKit
set_option maxRecDepth 100000

/-- What holds at the loop's door. -/
def OdD (D : DataW Unit) (p : List ByteArray) (s : ByteArray) (i : Int) : Prop := (∃ j : Nat, i = j ∧ j ≤ p.length ∧ odN D p s p.length = odN D p s j) ∨ (i = -1 ∧ odN D p s p.length = none)

set_option maxHeartbeats 3200000 in
theorem rOnDisk_walk {B : Nat} {w : World} {e0 : Nat} {lv rv : Value} {D : DataW Unit} {rs : List (Int × ByteArray × ByteArray)} {left : Int} (h : Dk.IsRef B w e0 lv rv (Dk.filesD D) rs left) (hG : Dk.Good D) (hS : Dk.Sound D) (hlen : (Dk.filesD D).length ≤ 3518437208800) (t s : ByteArray) (ht : t.size ≤ 140737488351232) {p : List ByteArray} (hp : parseV t.data.toList = some p) (hn : Sc.nameA s.data.toList = true) :
    Calls Tryz.prog 8 #[.pointer (some ⟨e0, 0, none⟩), .string t, .string s] w fun e w' => e = .returned (odA (odN D p s p.length)) ∧ Below w.heap.size w w' := by
  obtain ⟨hpl, hnp⟩ := parse_len ht hp
  have hs16 := name_size hn
  have HN : Hid (∀ w1, Calls Tryz.prog 26 #[.string s] w1 fun e w' => e = .returned (.bool true) ∧ w' = w1) := fun w1 => by have := Sc.rName_any s (by omega) w1; rw [hn] at this; exact this
  have HPR : Hid (Calls Tryz.prog 25 #[.string t] w fun e w' => ∃ v, e = .returned (.tuple #[v, .bool true]) ∧ OwnPa w' w.heap.size v p ∧ Below w.heap.size w w') := by
    have := rParseP_any t (by omega) (few_size ht) w
    rw [hp] at this
    exact this
  have HTX : Hid (∀ w1 v k, PathAt w1 v (p.take k ++ [s]) → Calls Tryz.prog 27 #[v] w1 fun e w' => e = .returned (.string (odT p s k)) ∧ Below w1.heap.size w1 w') := fun w1 v k hv => rTextP_w hv (by rw [List.length_append, List.length_take]; simp only [List.length_cons, List.length_nil]; omega) (fun y hy => by
    have hy2 : namesB (p.take k ++ [s]) = true := names_with hnp hn k
    unfold namesB at hy2
    have := name_size (List.all_eq_true.1 hy2 y hy)
    omega) (fun j _ _ => by
    have h1 := textN_take (p.take k ++ [s]) j
    have h2 := with_len hp hn k
    rw [textBA_size]
    omega)
  have HZ : Hid (∀ k, 0 < (odT p s k).size ∧ (odT p s k).size ≤ 140737488351257) := fun k => by
    have h2 := with_len hp hn k
    have h3 := textN_ge (names_with hnp hn k)
    rw [List.length_append] at h3
    rw [odT_eq hnp hn, textBA_size]
    simp only [List.length_cons, List.length_nil] at h3
    omega
  have HKD : Hid (∀ w1 t1, Below w.heap.size w w1 → Calls Tryz.prog 17 #[.pointer (some ⟨e0, 0, none⟩), .string t1] w1 fun e w' => e = .returned (.int .i64 (Dk.kindD D t1)) ∧ w' = w1) := fun w1 t1 hb => Dk.rKind_any (h.below hb) hG t1 hlen
  have HDI : Hid (∀ k, odK D p s k = 1 → Dk.kindD D (odT p s k) = 2) := fun k h1 => od_dir hS (HZ.out k).1 h1
  clear h hn hnp hp ht hlen hS hG
  go_enter Tryz.func8, Tryz.ntmps8
  go_wp2_with (first
    | (go_at_call 25; refine HPR.out.mono ?_; rintro e w1 ⟨v1, rfl, hov, hb1⟩; have HO1 := hide3 hov; have HB1 := hide3 hb1; obtain ⟨a1, c1, rfl, hc1⟩ := HO1.out.form; clear hov hb1)
    | (go_at_call 26; refine (HN.out _).mono ?_; rintro e w2 ⟨rfl, hw2⟩; subst w2))
  clear HPR HN
  have HJ : Hid (∀ w2, Below w1.heap.size w1 w2 → ∀ j, j ≤ p.length → Calls Tryz.prog 28 #[.slice a1 j c1, .string s] w2 fun e w' => ∃ a c, e = .returned (.slice a (j + 1) c) ∧ PathAt w' (.slice a (j + 1) c) (p.take j ++ [s]) ∧ Below w2.heap.size w2 w') := fun w2 hb j hj => by
    have hl : (p.take j).length = j := by rw [List.length_take]; omega
    have := joined_any ((HO1.out.at.cut hj).below hb) s (by rw [hl]; omega)
    rw [hl] at this
    exact this
  go_loopw [11] (fun vi wr => ∃ i : Int, vi = .int .i64 i ∧ Below w1.heap.size w1 wr ∧ OdD D p s i) (fun vi _ => (intOf vi + 1).toNat)
  case atStart => exact ⟨_, rfl, Below.refl _ _, Or.inl ⟨p.length, rfl, Nat.le_refl _, rfl⟩⟩
  case round =>
    obtain ⟨i, rfl, hb, hd⟩ := hrel
    have HB := hide3 hb
    rcases hd with ⟨j, rfl, hj, hst⟩ | ⟨rfl, hst⟩
    · have HST := hide3 hst
      have HJC := hide3 (fun W (hW : Below w1.heap.size w1 W) => HJ.out W hW j hj)
      have HTC := hide3 (fun W v hv => HTX.out W v j hv)
      have hzs := (HZ.out j).2
      have e1 := fun W : World => run_string_add_sum (P := Tryz.prog) (w := W) (odT p s j) pkgS (by rw [pkgS_size]; omega)
      have HK1 : Hid (∀ W, Below w1.heap.size w1 W → Calls Tryz.prog 17 #[.pointer (some ⟨e0, 0, none⟩), .string (odT p s j)] W fun e w' => e = .returned (.int .i64 (Dk.kindD D (odT p s j))) ∧ w' = W) := fun W hW => HKD.out W _ (below_then HB1.out hW)
      have HK2 : Hid (∀ W, Below w1.heap.size w1 W → Calls Tryz.prog 17 #[.pointer (some ⟨e0, 0, none⟩), .string (odT p s j ++ pkgS)] W fun e w' => e = .returned (.int .i64 (odK D p s j)) ∧ w' = W) := fun W hW => HKD.out W _ (below_then HB1.out hW)
      have HHIT : Hid (odK D p s j = 1 → odN D p s p.length = some (odT p s j) ∧ Dk.kindD D (odT p s j) = 2) := fun h => ⟨by rw [HST.out]; exact od_hit h, HDI.out j h⟩
      have HEND : Hid (odK D p s j ≠ 1 → j = 0 → odN D p s p.length = none) := fun h h2 => by rw [HST.out]; subst h2; exact od_end h
      have HGO : Hid (∀ i, j = i + 1 → odK D p s j ≠ 1 → odN D p s p.length = odN D p s i) := fun i h h2 => by rw [HST.out]; subst h; exact od_miss h2
      have hjc : j ≤ c1 := by omega
      unfold pkgS at e1 HK2
      generalize odT p s j = tx at *
      generalize odK D p s j = kf at *
      generalize Dk.kindD D tx = kd at *
      clear hst hb hzs
      have hjg : ((j : Int) ≥ 0) = True := eq_true (by omega)
      by_cases hq : kf = 1
      · obtain ⟨r1, r2⟩ := HHIT.out hq
        have HR := hide3 r1
        subst hq r2
        clear HHIT HEND HGO r1
        go_wp2_with (first
          | (have _h := HB4; go_at_call 17; refine (HK2.out _ HB4.out).mono ?_; rintro e w6 ⟨rfl, hw6⟩; subst w6; clear HB4)
          | (have _h := HB3; go_at_call 17; refine (HK1.out _ HB3.out).mono ?_; rintro e w5 ⟨rfl, hw5⟩; subst w5; have HB4 := HB3; have HB5 := HB3; clear HB3)
          | (have _h := HP2; go_at_call 27; refine (HTC.out _ _ HP2.out).mono ?_; rintro e w4 ⟨rfl, ok⟩; have HB3 := hide3 (below_then HB2.out ok); clear ok HP2)
          | (go_at_call 28; refine (HJC.out _ HB.out).mono ?_; rintro e w3 ⟨a3, c3, rfl, hp3, ok⟩; have HP2 := hide3 hp3; have HB2 := hide3 (below_then HB.out ok); clear hp3 ok))
        go_ret2
        exact ⟨by rw [HR.out]; rfl, below_then HB1.out HB5.out⟩
      · have hq2 : (kf == 1) = false := beq_eq_false_iff_ne.2 hq
        clear HHIT
        cases hk2 : (kd == 2)
        · rcases Nat.eq_zero_or_pos j with h0 | h0
          · have HR := hide3 (HEND.out hq h0)
            subst h0
            clear HGO HEND hq
            go_wp2_with (first
              | (have _h := HB4; go_at_call 17; refine (HK2.out _ HB4.out).mono ?_; rintro e w6 ⟨rfl, hw6⟩; subst w6; clear HB4)
              | (have _h := HB3; go_at_call 17; refine (HK1.out _ HB3.out).mono ?_; rintro e w5 ⟨rfl, hw5⟩; subst w5; have HB4 := HB3; have HB5 := HB3; clear HB3)
              | (have _h := HP2; go_at_call 27; refine (HTC.out _ _ HP2.out).mono ?_; rintro e w4 ⟨rfl, ok⟩; have HB3 := hide3 (below_then HB2.out ok); clear ok HP2)
              | (go_at_call 28; refine (HJC.out _ HB.out).mono ?_; rintro e w3 ⟨a3, c3, rfl, hp3, ok⟩; have HP2 := hide3 hp3; have HB2 := hide3 (below_then HB.out ok); clear hp3 ok))
            exact ⟨⟨-1, by go_num, HB5.out, Or.inr ⟨rfl, HR.out⟩⟩, by simp [intOf]⟩
          · obtain ⟨i, rfl⟩ : ∃ i, j = i + 1 := ⟨j - 1, by omega⟩
            have HR := hide3 (HGO.out i rfl hq)
            clear HGO HEND hq
            go_wp2_with (first
              | (have _h := HB4; go_at_call 17; refine (HK2.out _ HB4.out).mono ?_; rintro e w6 ⟨rfl, hw6⟩; subst w6; clear HB4)
              | (have _h := HB3; go_at_call 17; refine (HK1.out _ HB3.out).mono ?_; rintro e w5 ⟨rfl, hw5⟩; subst w5; have HB4 := HB3; have HB5 := HB3; clear HB3)
              | (have _h := HP2; go_at_call 27; refine (HTC.out _ _ HP2.out).mono ?_; rintro e w4 ⟨rfl, ok⟩; have HB3 := hide3 (below_then HB2.out ok); clear ok HP2)
              | (go_at_call 28; refine (HJC.out _ HB.out).mono ?_; rintro e w3 ⟨a3, c3, rfl, hp3, ok⟩; have HP2 := hide3 hp3; have HB2 := hide3 (below_then HB.out ok); clear hp3 ok))
            exact ⟨⟨(i : Int), by go_num, HB5.out, Or.inl ⟨i, rfl, by omega, HR.out⟩⟩, by simp [intOf]; omega⟩
        · rcases Nat.eq_zero_or_pos j with h0 | h0
          · have HR := hide3 (HEND.out hq h0)
            subst h0
            clear HGO HEND hq
            go_wp2_with (first
              | (have _h := HB4; go_at_call 17; refine (HK2.out _ HB4.out).mono ?_; rintro e w6 ⟨rfl, hw6⟩; subst w6; clear HB4)
              | (have _h := HB3; go_at_call 17; refine (HK1.out _ HB3.out).mono ?_; rintro e w5 ⟨rfl, hw5⟩; subst w5; have HB4 := HB3; have HB5 := HB3; clear HB3)
              | (have _h := HP2; go_at_call 27; refine (HTC.out _ _ HP2.out).mono ?_; rintro e w4 ⟨rfl, ok⟩; have HB3 := hide3 (below_then HB2.out ok); clear ok HP2)
              | (go_at_call 28; refine (HJC.out _ HB.out).mono ?_; rintro e w3 ⟨a3, c3, rfl, hp3, ok⟩; have HP2 := hide3 hp3; have HB2 := hide3 (below_then HB.out ok); clear hp3 ok))
            exact ⟨⟨-1, by go_num, HB5.out, Or.inr ⟨rfl, HR.out⟩⟩, by simp [intOf]⟩
          · obtain ⟨i, rfl⟩ : ∃ i, j = i + 1 := ⟨j - 1, by omega⟩
            have HR := hide3 (HGO.out i rfl hq)
            clear HGO HEND hq
            go_wp2_with (first
              | (have _h := HB4; go_at_call 17; refine (HK2.out _ HB4.out).mono ?_; rintro e w6 ⟨rfl, hw6⟩; subst w6; clear HB4)
              | (have _h := HB3; go_at_call 17; refine (HK1.out _ HB3.out).mono ?_; rintro e w5 ⟨rfl, hw5⟩; subst w5; have HB4 := HB3; have HB5 := HB3; clear HB3)
              | (have _h := HP2; go_at_call 27; refine (HTC.out _ _ HP2.out).mono ?_; rintro e w4 ⟨rfl, ok⟩; have HB3 := hide3 (below_then HB2.out ok); clear ok HP2)
              | (go_at_call 28; refine (HJC.out _ HB.out).mono ?_; rintro e w3 ⟨a3, c3, rfl, hp3, ok⟩; have HP2 := hide3 hp3; have HB2 := hide3 (below_then HB.out ok); clear hp3 ok))
            exact ⟨⟨(i : Int), by go_num, HB5.out, Or.inl ⟨i, rfl, by omega, HR.out⟩⟩, by simp [intOf]; omega⟩
    · have HST := hide3 hst
      clear hst hb
      go_wp2
      go_ret2
      exact ⟨by rw [HST.out]; rfl, below_then HB1.out HB.out⟩

theorem rOnDisk_no {w : World} (dv : Option Addr) (t s : ByteArray) (ht : t.size ≤ 140737488351232) (hs : s.size ≤ 9223372036854775807) (hno : parseV t.data.toList = none ∨ Sc.nameA s.data.toList = false) :
    Calls Tryz.prog 8 #[.pointer dv, .string t, .string s] w fun e w' => e = .returned (odA none) ∧ Below w.heap.size w w' := by
  have HN : Hid (∀ w1, Calls Tryz.prog 26 #[.string s] w1 fun e w' => e = .returned (.bool (Sc.nameA s.data.toList)) ∧ w' = w1) := fun w1 => Sc.rName_any s hs w1
  have HPR := hide3 (rParseP_any t (by omega) (few_size ht) w)
  cases hp : (parseV t.data.toList).isSome with
  | false =>
    rw [hp] at HPR
    generalize Sc.nameA s.data.toList = nb at *
    clear hno hp
    go_enter Tryz.func8, Tryz.ntmps8
    go_wp2_with (first
      | (go_at_call 25; refine HPR.out.mono ?_; rintro e w1 ⟨v1, rfl, hov, hb1⟩; have HB1 := hide3 hb1; clear hov hb1)
      | (go_at_call 26; refine (HN.out _).mono ?_; rintro e w2 ⟨rfl, hw2⟩; subst w2))
    go_ret2
    exact ⟨rfl, HB1.out⟩
  | true =>
    have hn : Sc.nameA s.data.toList = false := by
      rcases hno with h | h
      · rw [h] at hp; cases hp
      · exact h
    rw [hn] at HN
    rw [hp] at HPR
    clear hno hp hn
    go_enter Tryz.func8, Tryz.ntmps8
    go_wp2_with (first
      | (go_at_call 25; refine HPR.out.mono ?_; rintro e w1 ⟨v1, rfl, hov, hb1⟩; have HB1 := hide3 hb1; clear hov hb1)
      | (go_at_call 26; refine (HN.out _).mono ?_; rintro e w2 ⟨rfl, hw2⟩; subst w2))
    go_ret2
    exact ⟨rfl, HB1.out⟩

/-- The document's OnDisk. -/
theorem rOnDisk_any {B : Nat} {w : World} {e0 : Nat} {lv rv : Value} {D : DataW Unit} {rs : List (Int × ByteArray × ByteArray)} {left : Int} (h : Dk.IsRef B w e0 lv rv (Dk.filesD D) rs left) (hG : Dk.Good D) (hS : Dk.Sound D) (hlen : (Dk.filesD D).length ≤ 3518437208800) (t s : ByteArray) (ht : t.size ≤ 140737488351232) (hs : s.size ≤ 9223372036854775807) :
    Calls Tryz.prog 8 #[.pointer (some ⟨e0, 0, none⟩), .string t, .string s] w fun e w' => e = .returned (odA (odV D t s)) ∧ Below w.heap.size w w' := by
  cases hp : parseV t.data.toList with
  | none =>
    rw [odV_no (Or.inl hp)]
    exact rOnDisk_no _ t s ht hs (Or.inl hp)
  | some p =>
    cases hn : Sc.nameA s.data.toList with
    | false =>
      rw [odV_no (Or.inr hn)]
      exact rOnDisk_no _ t s ht hs (Or.inr hn)
    | true =>
      rw [odV_yes hp hn]
      exact rOnDisk_walk h hG hS hlen t s ht hp hn
end Go.Proofs.YtogpkhpephhbiaaGreatDoor
namespace Go.Proofs.YtogpkhpephhbiaaGreatDoor
open Go.RowKit
set_option maxRecDepth 100000

/-- A pin. -/
structure Pn where
  nm : ByteArray
  a : Int
  b : Int
  c : Int
/-- A pin at a place; pins. -/
def PnIn (w : World) (g o : Nat) (p : Pn) : Prop := (w.cell? ⟨g, o, none⟩ = some (.string p.nm) ∧ w.cell? ⟨g, o + 1, none⟩ = some (.int .i64 p.a) ∧ w.cell? ⟨g, o + 2, none⟩ = some (.int .i64 p.b) ∧ w.cell? ⟨g, o + 3, none⟩ = some (.int .i64 p.c)) ∧ g < w.heap.size
def PinsAt (w : World) (v : Value) (L : List Pn) : Prop := ∃ ad cap, v = .slice ad L.length cap ∧ L.length ≤ cap ∧ (L = [] ∨ ∃ g o, ad = some ⟨g, o, none⟩ ∧ g < w.heap.size ∧ ∀ i (h : i < L.length), PnIn w g (o + i * 4) L[i])
theorem PnIn.below {w w' : World} {g o : Nat} {p : Pn} (h : PnIn w g o p) (hb : Below w.heap.size w w') : PnIn w' g o p := by
  obtain ⟨⟨h0, h1, h2, h3⟩, hg⟩ := h
  have q : ∀ i, w'.cell? ⟨g, i, none⟩ = w.cell? ⟨g, i, none⟩ := fun i => hb.cell (p := ⟨g, i, none⟩) hg
  exact ⟨⟨by rw [q]; exact h0, by rw [q]; exact h1, by rw [q]; exact h2, by rw [q]; exact h3⟩, Nat.lt_of_lt_of_le hg hb.size⟩
theorem PinsAt.below {w w' : World} {v : Value} {L : List Pn} (h : PinsAt w v L) (hb : Below w.heap.size w w') : PinsAt w' v L := by
  obtain ⟨ad, cap, hv, hc, hl⟩ := h
  refine ⟨ad, cap, hv, hc, hl.imp id ?_⟩
  rintro ⟨g, o, ha, hg, hs⟩
  exact ⟨g, o, ha, Nat.lt_of_lt_of_le hg hb.size, fun i hi => (hs i hi).below hb⟩
theorem PinsAt.sl {w : World} {v : Value} {L : List Pn} (h : PinsAt w v L) : ∃ ad cap, v = .slice ad L.length cap := by
  obtain ⟨ad, cap, hv, _⟩ := h
  exact ⟨ad, cap, hv⟩
end Go.Proofs.YtogpkhpephhbiaaGreatDoor
namespace Go.Proofs.YtogpkhpephhbiaaGreatDoor
open Go.RowKit
set_option maxRecDepth 100000

/-- An edge, a node. -/
structure Eg where
  lb : ByteArray
  to : Int
structure Nd where
  nm : ByteArray
  a : Int
  b : Int
  c : Int
  cx : List Pn
  ed : List Eg

/-- An edge at a place, edges. -/
def EgIn (w : World) (g o : Nat) (e : Eg) : Prop := (w.cell? ⟨g, o, none⟩ = some (.string e.lb) ∧ w.cell? ⟨g, o + 1, none⟩ = some (.int .i64 e.to)) ∧ g < w.heap.size
def EdgesAt (w : World) (v : Value) (L : List Eg) : Prop := ∃ ad cap, v = .slice ad L.length cap ∧ L.length ≤ cap ∧ (L = [] ∨ ∃ g o, ad = some ⟨g, o, none⟩ ∧ g < w.heap.size ∧ ∀ i (h : i < L.length), EgIn w g (o + i * 2) L[i])
theorem EgIn.below {w w' : World} {g o : Nat} {p : Eg} (h : EgIn w g o p) (hb : Below w.heap.size w w') : EgIn w' g o p := by
  obtain ⟨⟨h0, h1⟩, hg⟩ := h
  have q : ∀ i, w'.cell? ⟨g, i, none⟩ = w.cell? ⟨g, i, none⟩ := fun i => hb.cell (p := ⟨g, i, none⟩) hg
  exact ⟨⟨by rw [q]; exact h0, by rw [q]; exact h1⟩, Nat.lt_of_lt_of_le hg hb.size⟩
theorem EdgesAt.below {w w' : World} {v : Value} {L : List Eg} (h : EdgesAt w v L) (hb : Below w.heap.size w w') : EdgesAt w' v L := by
  obtain ⟨ad, cap, hv, hc, hl⟩ := h
  refine ⟨ad, cap, hv, hc, hl.imp id ?_⟩
  rintro ⟨g, o, ha, hg, hs⟩
  exact ⟨g, o, ha, Nat.lt_of_lt_of_le hg hb.size, fun i hi => (hs i hi).below hb⟩
theorem EdgesAt.sl {w : World} {v : Value} {L : List Eg} (h : EdgesAt w v L) : ∃ ad cap, v = .slice ad L.length cap := by
  obtain ⟨ad, cap, hv, _⟩ := h
  exact ⟨ad, cap, hv⟩
/-- A node at a place; nodes. -/
def NdIn (w : World) (g o : Nat) (n : Nd) (vc ve : Value) : Prop := (w.cell? ⟨g, o, none⟩ = some (.string n.nm) ∧ w.cell? ⟨g, o + 1, none⟩ = some (.int .i64 n.a) ∧ w.cell? ⟨g, o + 2, none⟩ = some (.int .i64 n.b) ∧ w.cell? ⟨g, o + 3, none⟩ = some (.int .i64 n.c) ∧ w.cell? ⟨g, o + 4, none⟩ = some vc ∧ w.cell? ⟨g, o + 5, none⟩ = some ve) ∧ (PinsAt w vc n.cx ∧ EdgesAt w ve n.ed) ∧ g < w.heap.size
theorem NdIn.below {w w' : World} {g o : Nat} {n : Nd} {vc ve : Value} (h : NdIn w g o n vc ve) (hb : Below w.heap.size w w') : NdIn w' g o n vc ve := by
  obtain ⟨⟨h0, h1, h2, h3, h4, h5⟩, ⟨h6, h7⟩, hg⟩ := h
  have q : ∀ i, w'.cell? ⟨g, i, none⟩ = w.cell? ⟨g, i, none⟩ := fun i => hb.cell (p := ⟨g, i, none⟩) hg
  exact ⟨⟨by rw [q]; exact h0, by rw [q]; exact h1, by rw [q]; exact h2, by rw [q]; exact h3, by rw [q]; exact h4, by rw [q]; exact h5⟩, ⟨h6.below hb, h7.below hb⟩, Nat.lt_of_lt_of_le hg hb.size⟩
def NodesAt (w : World) (v : Value) (G : List Nd) : Prop := ∃ ad cap, v = .slice ad G.length cap ∧ G.length ≤ cap ∧ (G = [] ∨ ∃ g o, ad = some ⟨g, o, none⟩ ∧ g < w.heap.size ∧ ∀ i (h : i < G.length), ∃ vc ve, NdIn w g (o + i * 6) G[i] vc ve)
theorem NodesAt.below {w w' : World} {v : Value} {L : List Nd} (h : NodesAt w v L) (hb : Below w.heap.size w w') : NodesAt w' v L := by
  obtain ⟨ad, cap, hv, hc, hl⟩ := h
  refine ⟨ad, cap, hv, hc, hl.imp id ?_⟩
  rintro ⟨g, o, ha, hg, hs⟩
  exact ⟨g, o, ha, Nat.lt_of_lt_of_le hg hb.size, fun i hi => by obtain ⟨vc, ve, h⟩ := hs i hi; exact ⟨vc, ve, h.below hb⟩⟩
end Go.Proofs.YtogpkhpephhbiaaGreatDoor
namespace Go.Proofs.YtogpkhpephhbiaaGreatDoor
open Go.RowKit
set_option maxRecDepth 100000

theorem BxG.new (w : World) (v : Value) : BxT (w.alloc (.cells #[v] 76)) w.heap.size v := ⟨by simp, by simp⟩
/-- A directory has a node's package. -/
noncomputable def isOfB (d : Dr) (n : Nd) : Bool := eqB d.pk.nm n.nm && (decide (d.pk.a = n.a) && decide (d.pk.b = n.b) && decide (d.pk.c = n.c))

set_option maxHeartbeats 1600000 in
theorem isOf_any (d : Dr) (n : Nd) (ua x1 x2 x3 y1 y2 : Option Addr) (un uc l1 c1 l2 c2 l3 c3 m1 k1 m2 k2 : Nat) (w : World) :
    Calls Tryz.prog 41 #[.agg #[.slice ua un uc, .string d.pk.nm, .int .i64 d.pk.a, .int .i64 d.pk.b, .int .i64 d.pk.c, .slice x1 l1 c1, .slice x2 l2 c2, .slice x3 l3 c3, .int .i64 d.nd], .agg #[.string n.nm, .int .i64 n.a, .int .i64 n.b, .int .i64 n.c, .slice y1 m1 k1, .slice y2 m2 k2]] w fun e w' => e = .returned (.bool (isOfB d n)) ∧ Below w.heap.size w w' := by
  have HRB : Hid (isOfB d n = (eqB d.pk.nm n.nm && (decide (d.pk.a = n.a) && decide (d.pk.b = n.b) && decide (d.pk.c = n.c)))) := rfl
  have hv := eqV2 d.pk.a d.pk.b d.pk.c n.a n.b n.c
  have hgd := guardV
  generalize isOfB d n = rb at *
  by_cases hn : d.pk.nm = n.nm
  · have q1 : (d.pk.nm.toList == n.nm.toList) = true := by rw [hn]; simp
    have q2 : (d.pk.nm.toList = n.nm.toList) = True := by rw [hn]; simp
    rw [eqB_yes hn] at HRB
    clear hn
    generalize (decide (d.pk.a = n.a) && decide (d.pk.b = n.b) && decide (d.pk.c = n.c)) = xv at *
    generalize d.pk.nm = s at *
    generalize n.nm = t at *
    go_enter Tryz.func41, Tryz.ntmps41
    go_wp2
    go_ret
    exact ⟨ret_bool (by rw [HRB.out]; simp), boxB2 _ _ _⟩
  · have q1 : (d.pk.nm.toList == n.nm.toList) = false := by rw [beq_eq_false_iff_ne]; exact fun e => hn (bytes_same e)
    have q2 : (d.pk.nm.toList = n.nm.toList) = False := eq_false fun e => hn (bytes_same e)
    rw [eqB_no hn] at HRB
    clear hn
    generalize (decide (d.pk.a = n.a) && decide (d.pk.b = n.b) && decide (d.pk.c = n.c)) = xv at *
    generalize d.pk.nm = s at *
    generalize n.nm = t at *
    go_enter Tryz.func41, Tryz.ntmps41
    go_wp2
    go_ret
    exact ⟨ret_bool (by rw [HRB.out]; simp), boxB2 _ _ _⟩

/-- An edge leads to a node behind the root. -/
def toB (N : Nat) (e : Eg) : Bool := decide (0 < e.to) && decide (e.to < (N : Int))
/-- A graph has a root, and each of its edges leads to a node behind it. -/
def leadB (G : List Nd) : Bool := decide (0 < G.length) && G.all fun n => n.ed.all (toB G.length)
/-- A graph that is not too great. -/
def GrOk (G : List Nd) : Prop := G.length ≤ 9223372036854775807 ∧ ∀ n ∈ G, n.ed.length ≤ 9223372036854775807

theorem all_next {α : Type} {p : α → Bool} {L : List α} {k : Nat} (hk : k < L.length) (h : (L.take k).all p = true) (h2 : p L[k] = true) : (L.take (k + 1)).all p = true := by
  rw [List.take_succ_eq_append_getElem hk, List.all_append, h]
  simp [h2]
theorem all_not {α : Type} {p : α → Bool} {L : List α} {k : Nat} (hk : k < L.length) (h2 : p L[k] = false) : L.all p = false := by
  rw [List.all_eq_false]
  exact ⟨_, List.getElem_mem hk, by rw [h2]; simp⟩

set_option maxHeartbeats 6400000 in
theorem mayLead_any {G : List Nd} {v : Value} {w : World} (h : NodesAt w v G) (hz : GrOk G) :
    Calls Tryz.prog 39 #[.agg #[v]] w fun e w' => e = .returned (.bool (leadB G)) ∧ Below w.heap.size w w' := by
  have HNA : Hid (∀ w1, Below w.heap.size w w1 → NodesAt w1 v G) := fun w1 hb => h.below hb
  obtain ⟨ad, cap, rfl, hc, _⟩ := h
  have HZ := hide3 hz.2
  have hz1 := hz.1
  clear hz
  have HNO : Hid (∀ k (hk : k < G.length), G[k].ed.all (toB G.length) = false → leadB G = false) := fun k hk h => by
    unfold leadB
    rw [all_not (p := fun n : Nd => n.ed.all (toB G.length)) hk h]
    simp
  have HYE : Hid (G.all (fun n => n.ed.all (toB G.length)) = true → leadB G = decide (0 < G.length)) := fun h => by
    unfold leadB
    rw [h]
    simp
  go_enter Tryz.func39, Tryz.ntmps39
  go_wp2_with fail
  go_loopw [10] (fun i wr => ∃ k : Nat, k ≤ G.length ∧ i = .int .i64 k ∧ (Below w.heap.size w wr ∧ BxT wr w.heap.size (.slice ad G.length cap)) ∧ (G.take k).all (fun n => n.ed.all (toB G.length)) = true) (fun i _ => G.length - (intOf i).toNat)
  case atStart => exact ⟨0, Nat.zero_le _, rfl, ⟨boxB _ _, BxG.new _ _⟩, rfl⟩
  case round =>
    obtain ⟨k, hk, rfl, ⟨hb, bx0, bx1⟩, hall⟩ := hrel
    have HALL := hide3 hall
    have HB := hide3 hb
    obtain ⟨wa, rfl⟩ : ∃ x, x = wr := ⟨wr, rfl⟩
    have HBX : Hid (BxT wa w.heap.size (.slice ad G.length cap)) := ⟨bx0, bx1⟩
    by_cases hlt : k < G.length
    · obtain ⟨ad', cap', e, _, hcs⟩ := HNA.out wa hb
      cases e
      obtain ⟨g, o, rfl, hg, hcz⟩ : ∃ g o, ad = some ⟨g, o, none⟩ ∧ g < wa.heap.size ∧ ∀ i (h : i < G.length), ∃ vc ve, NdIn wa g (o + i * 6) G[i] vc ve := by
        rcases hcs with h | h
        · rw [h] at hlt; simp at hlt
        · exact h
      clear hcs
      obtain ⟨vc, ve, ⟨c0, c1, c2, c3, c4, c5⟩, ⟨hpn, hed⟩, hgg⟩ := hcz k hlt
      have HED : Hid (∀ w1, Below wa.heap.size wa w1 → EdgesAt w1 ve G[k].ed) := fun w1 hb => hed.below hb
      have hzk := HZ.out _ (List.getElem_mem hlt)
      have HNK := hide3 (HNO.out k hlt)
      have HNX : Hid (G[k].ed.all (toB G.length) = true → (G.take (k + 1)).all (fun n => n.ed.all (toB G.length)) = true) := fun h => all_next hlt HALL.out h
      obtain ⟨pa, pc, rfl⟩ := hpn.sl
      obtain ⟨ea, ec, rfl⟩ := hed.sl
      generalize G[k] = n at *
      clear hall hb hcz hpn hed
      obtain ⟨wb, hwb⟩ : ∃ wb, wb = wa.alloc (.cells #[.string n.nm, .int .i64 n.a, .int .i64 n.b, .int .i64 n.c, .slice pa n.cx.length pc, .slice ea n.ed.length ec] 73) := ⟨_, rfl⟩
      have HB1 : Hid (Below wa.heap.size wa wb) := by rw [hwb]; exact boxB _ _
      have hsz : wa.heap.size < wb.heap.size := by rw [hwb]; simp
      go_wp2_with fail
      rw [← hwb]
      clear c0 c1 c2 c3 c4 c5 hwb
      go_loopw [17] (fun i wx => ∃ j : Nat, j ≤ n.ed.length ∧ i = .int .i64 j ∧ Below wb.heap.size wb wx ∧ (n.ed.take j).all (toB G.length) = true) (fun i _ => n.ed.length - (intOf i).toNat)
      case atStart => exact ⟨0, Nat.zero_le _, rfl, Below.refl _ _, rfl⟩
      case round =>
        obtain ⟨j, hj, rfl, hbi, hali⟩ := hrel
        have HBI := hide3 hbi
        have HALI := hide3 hali
        have HBW : Hid (Below w.heap.size w wr) := below_then HB.out (below_then HB1.out hbi)
        have HBT : Hid (BxT wr w.heap.size (.slice (some ⟨g, o, none⟩) G.length cap)) := keepBxT _ _ _ _ HBX.out (below_then HB1.out hbi)
        obtain ⟨t0, t1⟩ := HBT.out
        clear bx0 bx1
        by_cases hlj : j < n.ed.length
        · obtain ⟨ea', ec', e, _, hcs⟩ := HED.out wr (below_then HB1.out hbi)
          cases e
          obtain ⟨eg, eo, rfl, heg, hcz⟩ : ∃ g o, ea = some ⟨g, o, none⟩ ∧ g < wr.heap.size ∧ ∀ i (h : i < n.ed.length), EgIn wr g (o + i * 2) n.ed[i] := by
            rcases hcs with h | h
            · rw [h] at hlj; simp at hlj
            · exact h
          clear hcs
          obtain ⟨⟨e0, e1⟩, _⟩ := hcz j hlj
          have HTN : Hid (toB G.length n.ed[j] = true → (n.ed.take (j + 1)).all (toB G.length) = true) := fun h => all_next hlj HALI.out h
          have HTF : Hid (toB G.length n.ed[j] = false → leadB G = false) := fun h => HNK.out (all_not hlj h)
          have HTB : Hid (toB G.length n.ed[j] = (decide (0 < n.ed[j].to) && decide (n.ed[j].to < (G.length : Int)))) := rfl
          generalize toB G.length n.ed[j] = tb at *
          generalize n.ed[j] = eg1 at *
          clear hcz hali hbi
          have t0' : (wr.alloc (.cells #[.string eg1.lb, .int .i64 eg1.to] 69)).cell? ⟨w.heap.size, 0, none⟩ = some (.slice (some ⟨g, o, none⟩) G.length cap) := ((boxB wr (.cells #[.string eg1.lb, .int .i64 eg1.to] 69)).cell (p := ⟨w.heap.size, 0, none⟩) t1).trans t0
          by_cases hq1 : eg1.to ≤ 0
          · have HR : Hid (leadB G = false) := HTF.out (by rw [HTB.out, decide_eq_false (by omega)]; rfl)
            go_wp2
            go_ret
            exact ⟨ret_bool HR.out.symm, below_then HBW.out (boxB _ _)⟩
          · by_cases hq2 : (G.length : Int) ≤ eg1.to
            · have HR : Hid (leadB G = false) := HTF.out (by rw [HTB.out, decide_eq_false (show ¬ eg1.to < (G.length : Int) by omega)]; simp)
              go_wp2
              go_ret
              exact ⟨ret_bool HR.out.symm, below_then HBW.out (boxB _ _)⟩
            · have HR := hide3 (HTN.out (by rw [HTB.out, decide_eq_true (by omega), decide_eq_true (by omega)]; rfl))
              go_wp2
              exact ⟨⟨j + 1, by omega, by go_num, below_then HBI.out (boxB _ _), HR.out⟩, by simp [intOf]; omega⟩
        · obtain rfl : j = n.ed.length := by omega
          have HR := hide3 (HNX.out (by rw [List.take_length] at hali; exact hali))
          clear hali hbi
          go_wp2
          exact ⟨⟨k + 1, by omega, by go_num, ⟨HBW.out, HBT.out⟩, HR.out⟩, by simp [intOf]; omega⟩
    · obtain rfl : k = G.length := by omega
      have HR : Hid (leadB G = decide (0 < G.length)) := HYE.out (by rw [List.take_length] at hall; exact hall)
      clear hb hall
      rcases Nat.eq_zero_or_pos G.length with h0 | h0
      · rw [h0] at HR
        go_wp2
        go_ret
        exact ⟨ret_bool (by rw [HR.out]; simp), HB.out⟩
      · have hp : decide ((G.length : Int) > 0) = true := decide_eq_true (by omega)
        rw [decide_eq_true h0] at HR
        go_wp2
        go_ret
        exact ⟨ret_bool (by rw [HR.out]), HB.out⟩
end Go.Proofs.YtogpkhpephhbiaaGreatDoor
namespace Go.Proofs.YtogpkhpephhbiaaGreatDoor
open Go.RowKit
set_option maxRecDepth 100000

/-- A map under way: the directories' nodes, and which directories are reached. -/
structure MS where
  m : List Int
  q : List Nat
def drZ : Dr := ⟨[], zeroPg, 0⟩
def ndZ : Nd := ⟨⟨#[]⟩, 0, 0, 0, [], []⟩
/-- An edge of directory r's node is followed. -/
noncomputable def stepM (L : List Dr) (G : List Nd) (r : Nat) (st : MS) (e : Eg) : Option MS :=
  if lookV L (r : Int) e.lb < 0 then none
  else if isOfB (L.getD (lookV L (r : Int) e.lb).toNat drZ) (G.getD e.to.toNat ndZ) = false then none
  else if st.m.getD (lookV L (r : Int) e.lb).toNat 0 < 0 then some ⟨st.m.set (lookV L (r : Int) e.lb).toNat e.to, st.q ++ [(lookV L (r : Int) e.lb).toNat]⟩
  else if st.m.getD (lookV L (r : Int) e.lb).toNat 0 = e.to then some st else none
noncomputable def edgesM (L : List Dr) (G : List Nd) (r : Nat) : List Eg → MS → Option MS
  | [], st => some st
  | e :: es, st => (stepM L G r st e).bind (edgesM L G r es)
/-- The edges of directory r's node. -/
def edsOf (G : List Nd) (st : MS) (r : Nat) : List Eg := (G.getD (st.m.getD r 0).toNat ndZ).ed
noncomputable def runM (L : List Dr) (G : List Nd) : Nat → Nat → MS → Option (List Int)
  | 0, _, _ => none
  | n + 1, i, st => match st.q[i]? with
    | none => some st.m
    | some r => (edgesM L G r (edsOf G st r) st).bind (runM L G n (i + 1))
def startM (n : Nat) : MS := ⟨(List.replicate n (-1)).set 0 0, [0]⟩
noncomputable def mapV (L : List Dr) (G : List Nd) : Option (List Int) := runM L G (L.length + 1) 0 (startM L.length)
/-- What Map answers: the map, the error. -/
noncomputable def mapO (L : List Dr) (G : List Nd) : List Int := if checkB L = true ∧ leadB G = true then (mapV L G).getD [] else []
noncomputable def mapE (L : List Dr) (G : List Nd) : Int := if checkB L = true then (if leadB G = true then (if (mapV L G).isSome = true then 0 else 42) else 33) else 42

/-- What stands of a map under way. -/
structure MInv (L : List Dr) (G : List Nd) (st : MS) : Prop where
  len : st.m.length = L.length
  each : ∀ j (h : j < st.m.length), st.m[j] = -1 ∨ (0 ≤ st.m[j] ∧ st.m[j] < (G.length : Int))
  qin : ∀ r ∈ st.q, ∃ h : r < st.m.length, 0 ≤ st.m[r]
  cnt : st.q.length = st.m.countP fun x => decide (0 ≤ x)
theorem MInv.short {L : List Dr} {G : List Nd} {st : MS} (h : MInv L G st) : st.q.length ≤ L.length := by
  rw [h.cnt, ← h.len]
  exact List.countP_le_length
theorem MInv.start {L : List Dr} {G : List Nd} (hl : 0 < L.length) (hg : 0 < G.length) : MInv L G (startM L.length) where
  len := by simp [startM]
  each := fun j h => by
    have h' : j < L.length := by simpa [startM] using h
    have e : (startM L.length).m[j] = if 0 = j then 0 else -1 := by simp [startM, List.getElem_set]
    rw [e]
    split
    · exact Or.inr ⟨Int.le_refl _, by omega⟩
    · exact Or.inl rfl
  qin := fun r hr => by
    obtain rfl : r = 0 := by simpa [startM] using hr
    exact ⟨by simpa [startM] using hl, by simp [startM]⟩
  cnt := by
    unfold startM
    simp only [List.length_singleton]
    rw [List.countP_set (by simpa using hl)]
    have e : (List.replicate L.length (-1 : Int)).countP (fun x => decide (0 ≤ x)) = 0 := by
      rw [List.countP_eq_zero]
      intro a ha
      rw [(List.mem_replicate.1 ha).2]
      decide
    rw [e]
    simp
theorem MInv.set {L : List Dr} {G : List Nd} {st : MS} (h : MInv L G st) {k : Nat} (hk : k < st.m.length) (hm : st.m[k] < 0) {x : Int} (hx : 0 < x) (hx2 : x < (G.length : Int)) : MInv L G ⟨st.m.set k x, st.q ++ [k]⟩ where
  len := by simpa using h.len
  each := fun j hj => by
    simp only [List.getElem_set]
    split
    · exact Or.inr ⟨by omega, hx2⟩
    · exact h.each j (by simpa using hj)
  qin := fun r hr => by
    rcases List.mem_append.1 hr with hr | hr
    · obtain ⟨h1, h2⟩ := h.qin r hr
      refine ⟨by simpa using h1, ?_⟩
      simp only [List.getElem_set]
      split
      · omega
      · exact h2
    · obtain rfl := List.mem_singleton.1 hr
      refine ⟨by simpa using hk, ?_⟩
      simp only [List.getElem_set_self]
      omega
  cnt := by
    rw [List.length_append, h.cnt, List.length_singleton]
    simp only
    rw [List.countP_set hk, if_neg (by simpa using hm), if_pos (by simp; omega)]
    simp

/-- Numbers as cells. -/
def ints (l : List Int) : List Value := l.map (.int .i64)
def nats (l : List Nat) : List Value := l.map fun r : Nat => Value.int .i64 (r : Int)
theorem ints_length (l : List Int) : (ints l).length = l.length := by simp [ints]
theorem nats_length (l : List Nat) : (nats l).length = l.length := by simp [nats]
theorem ints_set (l : List Int) (k : Nat) (x : Int) : ints (l.set k x) = (ints l).set k (.int .i64 x) := by simp [ints, List.map_set]
theorem nats_snoc (l : List Nat) (r : Nat) : nats (l ++ [r]) = nats l ++ [.int .i64 (r : Int)] := by simp [nats]
/-- Numbers of one's own. -/
def OwnI (w : World) (B : Nat) (v : Value) (l : List Int) : Prop := w.ownsRow B 3 1 v l.length (ints l)
def InI (w : World) (g o : Nat) (x : Int) : Prop := w.cell? ⟨g, o, none⟩ = some (.int .i64 x) ∧ g < w.heap.size
theorem keepInI (g o : Nat) (x : Int) : KeepP fun w1 => InI w1 g o x := fun _ _ h hb => ⟨(hb.cell (p := ⟨g, o, none⟩) h.2).trans h.1, Nat.lt_of_lt_of_le h.2 hb.size⟩
theorem row_below {w w' : World} {B : Nat} {e : TypeId} {sz : Nat} {v : Value} {n : Nat} {xs : List Value} (h : w.ownsRow B e sz v n xs) (hb : Below w.heap.size w w') : w'.ownsRow B e sz v n xs := by
  refine ⟨h.1, h.2.imp id ?_⟩
  rintro ⟨g, cap, cur, rfl, hB, hgg, r⟩
  exact ⟨g, cap, cur, rfl, hB, (hb.block g (Array.getElem?_eq_some_iff.1 hgg).1).trans hgg, r⟩

/-- The memory of a map under way: the variables of tree and graph, the nodes' row (block g), the row of those that are reached (block q). -/
def StM (w : World) (vt vg : Value) (g : Nat) (q c : Nat) (st : MS) (wr : World) : Prop :=
  (Below w.heap.size w wr ∧ BxT wr w.heap.size vt ∧ BxT wr (w.heap.size + 1) vg) ∧ (wr.ownsRow (w.heap.size + 2) 3 1 (.slice (some ⟨g, 0, none⟩) st.m.length st.m.length) st.m.length (ints st.m) ∧ wr.ownsRow (w.heap.size + 2) 3 1 (.slice (some ⟨q, 0, none⟩) st.q.length c) st.q.length (nats st.q)) ∧ q ≠ g
theorem keepStM (w : World) (vt vg : Value) (g q c : Nat) (st : MS) : KeepP (StM w vt vg g q c st) := fun _ _ h hb =>
  ⟨⟨below_then h.1.1 hb, keepBxT _ _ _ _ h.1.2.1 hb, keepBxT _ _ _ _ h.1.2.2 hb⟩, ⟨row_below h.2.1.1 hb, row_below h.2.1.2 hb⟩, h.2.2⟩
theorem StM.node {w : World} {vt vg : Value} {g q c : Nat} {st : MS} {wr : World} (h : StM w vt vg g q c st wr) {k : Nat} (hk : k < st.m.length) : InI wr g k st.m[k] := by
  have e := World.ownsRow.cellAt h.2.1.1 k (by omega)
  have e2 : (ints st.m)[k]? = some (.int .i64 st.m[k]) := by simp [ints, hk]
  exact ⟨e.trans e2, (World.ownsRow.lt h.2.1.1 g rfl).2⟩
theorem StM.seen {w : World} {vt vg : Value} {g q c : Nat} {st : MS} {wr : World} (h : StM w vt vg g q c st wr) {k : Nat} (hk : k < st.q.length) : InI wr q k (st.q[k] : Int) := by
  have e := World.ownsRow.cellAt h.2.1.2 k (by omega)
  have e2 : (nats st.q)[k]? = some (.int .i64 (st.q[k] : Int)) := by simp [nats, hk]
  exact ⟨e.trans e2, (World.ownsRow.lt h.2.1.2 q rfl).2⟩
/-- A directory gets its node. -/
theorem StM.put {w : World} {vt vg : Value} {g q c : Nat} {st : MS} {wr : World} (h : StM w vt vg g q c st wr) (k : Nat) (x : Int) : StM w vt vg g q c ⟨st.m.set k x, st.q⟩ (wr.setCell ⟨g, k, none⟩ (.int .i64 x)) := by
  obtain ⟨h1, h2⟩ := World.ownsRow.stored h.2.1.1 k (.int .i64 x)
  have hB := (World.ownsRow.lt h.2.1.1 g rfl).1
  refine ⟨⟨h.1.1.grown h2 h.1.1.size (fun k hk => by cases hk; omega), ⟨h2.cell h.1.2.1.1 (by simp; omega), Nat.lt_of_lt_of_le h.1.2.1.2 h2.size⟩, ⟨h2.cell h.1.2.2.1 (by simp; omega), Nat.lt_of_lt_of_le h.1.2.2.2 h2.size⟩⟩, ⟨?_, ?_⟩, h.2.2⟩
  · show World.ownsRow _ _ _ _ (.slice (some ⟨g, 0, none⟩) (st.m.set k x).length (st.m.set k x).length) (st.m.set k x).length (ints (st.m.set k x))
    rw [ints_set, List.length_set]
    exact h1
  · exact h.2.1.2.kept h2 (Or.inr (by simp [Value.ownBlock]; exact h.2.2))
/-- One more is reached. -/
theorem StM.app {w : World} {vt vg : Value} {g q c : Nat} {st : MS} {wr w1 : World} {v1 : Value} (h : StM w vt vg g q c st wr) (r : Nat) (ho : w1.ownsRow (w.heap.size + 2) 3 1 v1 (st.q.length + 1) (nats st.q ++ [.int .i64 (r : Int)])) (hg : wr.grownBy w1 (some q)) (hat : v1.ownBlock = some q ∨ v1.ownBlock = some (wr.heap.size + 1)) : ∃ q' c', v1 = .slice (some ⟨q', 0, none⟩) (st.q ++ [r]).length c' ∧ StM w vt vg g q' c' ⟨st.m, st.q ++ [r]⟩ w1 := by
  have hB := (World.ownsRow.lt h.2.1.2 q rfl).1
  have hgl := (World.ownsRow.lt h.2.1.1 g rfl).2
  obtain ⟨q', c', rfl, _⟩ := ho.form (by omega)
  refine ⟨q', c', by rw [List.length_append]; rfl, ⟨h.1.1.grown hg h.1.1.size (fun k hk => by cases hk; omega), ⟨hg.cell h.1.2.1.1 (by simp; omega), Nat.lt_of_lt_of_le h.1.2.1.2 hg.size⟩, ⟨hg.cell h.1.2.2.1 (by simp; omega), Nat.lt_of_lt_of_le h.1.2.2.2 hg.size⟩⟩, ⟨?_, ?_⟩, ?_⟩
  · exact h.2.1.1.kept hg (Or.inr (by simp [Value.ownBlock]; exact fun e => h.2.2 e.symm))
  · show World.ownsRow _ _ _ _ (.slice (some ⟨q', 0, none⟩) (st.q ++ [r]).length c') (st.q ++ [r]).length (nats (st.q ++ [r]))
    rw [nats_snoc, List.length_append]
    exact ho
  · rcases hat with e | e
    · have : q' = q := by simpa [Value.ownBlock] using e
      rw [this]; exact h.2.2
    · have : q' = wr.heap.size + 1 := by simpa [Value.ownBlock] using e
      omega

/-- A number put behind numbers of one's own, in a region that keeps its order. -/
theorem wp_ownI {B : Nat} {wx : World} {n : Nat} {v : Value} {xs : List Value} {x : Int} {ops : Array Oper} {rest : List Oper} {o : Oper} {f : Act} {Q : Exit → Act → World → Prop}
    (hgd : o.guard = none) (s t : Operand) (ho : o.op = .call { callee := .builtin .append, args := #[s, t], argTypes := #[77, 77] }) (hs : f.eval s = v)
    (hown : wx.ownsRow B 3 1 v n xs) (hB : B ≤ wx.heap.size) {M : Nat} (hM : wx.heap.size = M) (hx : f.eval t = .slice (some ⟨M, 0, none⟩) 1 1) (hlen : n ≤ 1000000)
    (h : ∀ v1 w1, w1.ownsRow B 3 1 v1 (n + 1) (xs ++ [.int .i64 x]) → (wx.alloc (.cells #[.int .i64 x] 3)).grownBy w1 v.ownBlock → (v1.ownBlock = v.ownBlock ∨ v1.ownBlock = some (wx.heap.size + 1)) → wpList Tryz.prog ops Q rest (f.put o.dst v1) w1) :
    wpList Tryz.prog ops Q (o :: rest) f (wx.alloc (.cells #[.int .i64 x] 3)) := by
  subst hM
  have hinfo : (Tryz.prog.info? 3).map (fun i => (i.zero, i.size, i.bytes)) = some (some (.int .i64 0), 1, 8) := by kernel_rfl
  obtain ⟨i0, hi, hz0, hz1, hz2⟩ := Sc.info_parts hinfo
  refine wpList_append_own_at _ hgd s t 77 ho B 3 i0 _ 1 8 Tryz.underlying77 hi hz0 hz1 hz2 rfl (by decide) v n xs hs (hown.alloc _) ⟨wx.heap.size, 0, none⟩ 1 1 [.int .i64 x] hx rfl (cell_one_new _ _ _) (fun u hu => by rw [List.mem_singleton.1 hu]; rfl) (by unfold maxLen; omega) (by omega) (by simp; omega) ?_
  intro v1 w1 h1 h2 _ h4
  exact h v1 w1 h1 h2 (by rw [show (wx.alloc (.cells #[.int .i64 x] 3)).heap.size = wx.heap.size + 1 by simp] at h4; exact h4)

/-- What Map of package walkup answers with. -/
def MapQ (w : World) (L : List Dr) (G : List Nd) (e : Ending) (w' : World) : Prop := ∃ v', e = .returned (.tuple #[v', .int .i64 (mapE L G)]) ∧ OwnI w' w.heap.size v' (mapO L G) ∧ Below w.heap.size w w'
end Go.Proofs.YtogpkhpephhbiaaGreatDoor
