/- Od2, Od3, Od4, Kn2, Env1, RowS, RwD, RwP, laid in one text. -/
import Derived.Test.YtogpkhpephhbiaaGreatDoorMg18
namespace Go.Proofs.YtogpkhpephhbiaaGreatDoor
open Go.RowKit
set_option maxRecDepth 100000

/-- A name put behind names of one's own: what was there stays. -/
theorem wp_keepN {B : Nat} {wx : World} {n : Nat} {v : Value} {xs : List Value} {s0 : ByteArray} {ops : Array Oper} {rest : List Oper} {o : Oper} {f : Act} {Q : Exit → Act → World → Prop}
    (hgd : o.guard = none) (s t : Operand) (ho : o.op = .call { callee := .builtin .append, args := #[s, t], argTypes := #[53, 53] }) (hs : f.eval s = v)
    (hown : wx.ownsRow B 9 1 v n xs) (hB : B ≤ wx.heap.size) (hx : f.eval t = .slice (some ⟨wx.heap.size, 0, none⟩) 1 1) (hb : ((n + 1) + (n + 1) / 4 + 192) * 16 ≤ 281474976710656)
    (h : ∀ v1 w1, w1.ownsRow B 9 1 v1 (n + 1) (xs ++ [.string s0]) → w1.ownsRow B 9 1 v n xs → (wx.alloc (.cells #[.string s0] 9)).grownBy w1 v.ownBlock → wpList Tryz.prog ops Q rest (f.put o.dst v1) w1) :
    wpList Tryz.prog ops Q (o :: rest) f (wx.alloc (.cells #[.string s0] 9)) := by
  refine wpList_plain hgd fun K hK => ?_
  obtain ⟨i0, hi, hz0, hz1, hz2⟩ := Sc.info_parts Sc.infoStr
  obtain ⟨v1, w1, hr, h1, h2, h3⟩ := run_app_keep (wx.alloc (.cells #[.string s0] 9)) B 53 o.type 9 i0 _ 16 Tryz.underlying53 hi hz0 hz1 hz2 rfl v n xs (hown.alloc _) ⟨wx.heap.size, 0, none⟩ 1 (.string s0) (cell_one_new _ _ _) rfl hb (by unfold maxLen; omega) (by simp; omega)
  unfold Oper.wp execOp
  simp only [ho, resolve, invoke, builtin, Sem.run_bind, Sem.run_pure, Result.andThen_ok, List.map_toArray, List.map_cons, List.map_nil, hs, hx, hr]
  exact hK _ _ (h v1 w1 h1 h2 h3)

set_option maxHeartbeats 1600000 in
theorem isPackage_any {B : Nat} {w : World} {d mb n : Nat} {rv : Value} {x : Dk.Ab} (h : Dk.IsDisk B w d mb n rv x) (t : ByteArray) (ht : t.size ≤ 219902325555200) :
    Calls Tryz.prog 22 #[.pointer (some ⟨d, 0, none⟩), .string t] w fun e w' => e = .returned (.bool (Dk.kindD x.D (t ++ pkgS) == 1)) ∧ Below w.heap.size w w' := by
  have HK : Hid (∀ w1, Below w.heap.size w w1 → Calls Tryz.prog 11 #[.pointer (some ⟨d, 0, none⟩), .string (t ++ pkgS)] w1 fun e w' => e = .returned (.int .i64 (Dk.kindD x.D (t ++ pkgS))) ∧ Below w1.heap.size w1 w') := fun w1 hb => Dk.Kind_any (h.below hb) _ (by rw [app_size, pkgS_size]; unfold maxLen; omega)
  have e1 := fun W : World => run_string_add_sum (P := Tryz.prog) (w := W) t pkgS (by rw [pkgS_size]; omega)
  clear h
  generalize Dk.kindD x.D (t ++ pkgS) = kk at *
  unfold pkgS at HK e1
  go_enter Tryz.func22, Tryz.ntmps22
  go_wp2_with (go_at_call 11; refine (HK.out _ (Below.refl _ _)).mono ?_; rintro e w1 ⟨rfl, ok⟩; have HB := hide3 ok; clear ok)
  go_ret
  exact ⟨rfl, HB.out⟩

/-- How many names a text has. -/
theorem parse_len {t : ByteArray} (ht : t.size ≤ 140737488351232) {p : List ByteArray} (hp : parseV t.data.toList = some p) : p.length ≤ 14073748835123 ∧ namesB p = true := by
  rcases Classical.em (p = []) with rfl | h0
  · exact ⟨by simp, rfl⟩
  · have hn := (parse_names hp).resolve_left h0
    have h2 := text_parse hp
    have e : t.data.toList = textN p := by rw [← h2]; unfold textPa; rw [if_neg h0, if_pos hn]
    have h3 := textN_ge hn
    rw [← e, list_size] at h3
    exact ⟨by omega, hn⟩
theorem with_len {t : ByteArray} {p : List ByteArray} (hp : parseV t.data.toList = some p) {s : ByteArray} (hs : Sc.nameA s.data.toList = true) (k : Nat) : (textN (p.take k ++ [s])).length ≤ t.size + 25 := by
  have h1 := few_take (t := t) (by rw [hp]; rfl) (k := k)
  rw [hp] at h1
  have h2 : (textN (p.take k)).length ≤ t.size := h1
  have h3 := name_size hs
  rw [textN_snoc]
  simp only [List.length_append, list_size]
  have h9 : modS.size = 9 := rfl
  omega

set_option maxHeartbeats 3200000 in
theorem onDisk_walk {B : Nat} {w : World} {d mb n : Nat} {rv : Value} {x : Dk.Ab} (h : Dk.IsDisk B w d mb n rv x) (t s : ByteArray) (ht : t.size ≤ 140737488351232) {p : List ByteArray} (hp : parseV t.data.toList = some p) (hn : Sc.nameA s.data.toList = true) :
    Calls Tryz.prog 6 #[.pointer (some ⟨d, 0, none⟩), .string t, .string s] w fun e w' => e = .returned (odA (odN x.D p s p.length)) ∧ Below w.heap.size w w' := by
  obtain ⟨hpl, hnp⟩ := parse_len ht hp
  have HN : Hid (∀ w1, Calls Tryz.prog 20 #[.string s] w1 fun e w' => e = .returned (.bool true) ∧ w' = w1) := fun w1 => by have := Sc.Name_any s w1; rw [hn] at this; exact this
  have HPR : Hid (Calls Tryz.prog 19 #[.string t] w fun e w' => ∃ v, e = .returned (.tuple #[v, .bool true]) ∧ OwnPa w' w.heap.size v p ∧ Below w.heap.size w w') := by
    have := tParse_any t (by omega) (few_size ht) w
    rw [hp] at this
    exact this
  have HTX : Hid (∀ w1 v k, PathAt w1 v (p.take k ++ [s]) → Calls Tryz.prog 21 #[v] w1 fun e w' => e = .returned (.string (odT p s k)) ∧ Below w1.heap.size w1 w') := fun w1 v k hv => tText_w hv (by rw [List.length_append, List.length_take]; simp only [List.length_cons, List.length_nil]; omega) (fun j _ _ => by
    have h1 := textN_take (p.take k ++ [s]) j
    have h2 := with_len hp hn k
    omega)
  have HPK : Hid (∀ w1 k, Below w.heap.size w w1 → Calls Tryz.prog 22 #[.pointer (some ⟨d, 0, none⟩), .string (odT p s k)] w1 fun e w' => e = .returned (.bool (odK x.D p s k == 1)) ∧ Below w1.heap.size w1 w') := fun w1 k hb => isPackage_any (h.below hb) _ (by
    have h2 := with_len hp hn k
    rw [odT_eq hnp hn, textBA_size]
    omega)
  have HMI : Hid (odN x.D p s p.length = odN x.D p s (min p.length 409)) := od_min (show KeysOk x.D from h.keys) hnp hn
  clear h hn hnp hp ht
  go_enter Tryz.func6, Tryz.ntmps6
  go_wp2_with (first
    | (go_at_call 19; refine HPR.out.mono ?_; rintro e w1 ⟨v1, rfl, hov, hb1⟩; have HO1 := hide3 hov; have HB1 := hide3 hb1; obtain ⟨a1, c1, rfl, hc1⟩ := HO1.out.form; clear hov hb1)
    | (go_at_call 20; refine (HN.out _).mono ?_; rintro e w2 ⟨rfl, hw2⟩; subst w2))
  clear HPR HN
  have HOM : Hid (OwnPa w1 w.heap.size (.slice a1 (min p.length 409) c1) (p.take (min p.length 409))) := HO1.out.cut (Nat.min_le_left _ _)
  go_loopw [10] (fun vl wr => ∃ j : Nat, j ≤ p.length ∧ (∃ a c, vl = .slice a j c ∧ j ≤ c) ∧ OwnPa wr w.heap.size vl (p.take j) ∧ Below w.heap.size w wr ∧ odN x.D p s p.length = odN x.D p s j) (fun vl _ => match vl with | .slice _ n _ => n | _ => 0)
  case atStart =>
    have hmn : (min (p.length : Int) 409).toNat = min p.length 409 := by omega
    rw [hmn]
    exact ⟨min p.length 409, Nat.min_le_left _ _, ⟨a1, c1, rfl, by omega⟩, HOM.out, HB1.out, HMI.out⟩
  case round =>
    obtain ⟨j, hj, ⟨a, c, rfl, hac⟩, hown, hb, hst⟩ := hrel
    have hpl2 : (p.take j).length = j := by rw [List.length_take]; omega
    have HOW : Hid (wr.ownsRow w.heap.size 9 1 (.slice a j c) j (pcs (p.take j))) := (by have e := hown; unfold OwnPa at e; rw [hpl2] at e; exact e)
    have HB := hide3 hb
    have HST := hide3 hst
    have hBr : w.heap.size ≤ wr.heap.size := hb.size
    have HAF : Hid (∀ v5 w5, w5.ownsRow w.heap.size 9 1 v5 (j + 1) (pcs (p.take j) ++ [.string s]) → w5.ownsRow w.heap.size 9 1 (.slice a j c) j (pcs (p.take j)) → (wr.alloc (.cells #[.string s] 9)).grownBy w5 (Value.slice a j c).ownBlock → (PathAt w5 v5 (p.take j ++ [s]) ∧ OwnPa w5 w.heap.size (.slice a j c) (p.take j)) ∧ Below w.heap.size w w5) := fun v5 w5 h1 h2 h3 => by
      refine ⟨⟨OwnPa.at (B := w.heap.size) ?_, ?_⟩, HB.out.grown (grown_on (boxB _ _) h3) HB.out.size (fun q hq => (World.ownsRow.lt HOW.out q hq).1)⟩
      · unfold OwnPa
        rw [pcs_snoc, List.length_append, hpl2]
        exact h1
      · unfold OwnPa
        rw [hpl2]
        exact h2
    have hwide : ((j + 1) + (j + 1) / 4 + 192) * 16 ≤ 281474976710656 := by omega
    have HTC := hide3 (fun W v hv => HTX.out W v j hv)
    have HPC := hide3 (fun W (hW : Below w.heap.size w W) => HPK.out W j hW)
    have HHIT : Hid (odK x.D p s j = 1 → odN x.D p s p.length = some (odT p s j)) := fun h => by rw [HST.out]; exact od_hit h
    have HEND : Hid (odK x.D p s j ≠ 1 → j = 0 → odN x.D p s p.length = none) := fun h h2 => by rw [HST.out]; subst h2; exact od_end h
    have HGO : Hid (∀ i, j = i + 1 → odK x.D p s j ≠ 1 → odN x.D p s p.length = odN x.D p s i) := fun i h h2 => by rw [HST.out]; subst h; exact od_miss h2
    have HOC : Hid (∀ w6, OwnPa w6 w.heap.size (.slice a j c) (p.take j) → ∀ i, i ≤ j → OwnPa w6 w.heap.size (.slice a i c) (p.take i)) := fun w6 ho i hi => by
      have := ho.cut hi
      rw [List.take_take, Nat.min_eq_left hi] at this
      exact this
    generalize odT p s j = tx at *
    generalize odK x.D p s j = kf at *
    clear hown hb hst hpl2 HOM HMI HTX HPK
    by_cases hq : kf = 1
    · have HR := hide3 (HHIT.out hq)
      subst hq
      clear HHIT HEND HGO
      go_wp2_with (first
        | (have _h := HB6; go_at_call 22; refine (HPC.out _ HB6.out.2).mono ?_; rintro e w7 ⟨rfl, ok⟩; have HB7 := hide3 (below_then HB6.out.2 ok); clear ok HB6)
        | (have _h := HP5; go_at_call 21; refine (HTC.out _ _ HP5.out.1.1).mono ?_; rintro e w6 ⟨rfl, ok⟩; have HB6 : Hid (OwnPa w6 w.heap.size (.slice a j c) (p.take j) ∧ Below w.heap.size w w6) := ⟨HP5.out.1.2.below ok, below_then HP5.out.2 ok⟩; clear ok HP5)
        | (at_builtin; refine wp_keepN rfl _ _ rfl rfl HOW.out hBr rfl hwide ?_; intro v5 w5 h1 h2 h3; have HP5 := hide3 (HAF.out v5 w5 h1 h2 h3); clear h1 h2 h3))
      go_ret2
      exact ⟨by rw [HR.out]; rfl, HB7.out⟩
    · have hq2 : (kf == 1) = false := beq_eq_false_iff_ne.2 hq
      rw [hq2] at HPC
      clear HHIT hq2
      rcases Nat.eq_zero_or_pos j with h0 | h0
      · have HR := hide3 (HEND.out hq h0)
        subst h0
        clear HGO HEND hq
        go_wp2_with (first
          | (have _h := HB6; go_at_call 22; refine (HPC.out _ HB6.out.2).mono ?_; rintro e w7 ⟨rfl, ok⟩; have HB7 := hide3 (below_then HB6.out.2 ok); clear ok HB6)
          | (have _h := HP5; go_at_call 21; refine (HTC.out _ _ HP5.out.1.1).mono ?_; rintro e w6 ⟨rfl, ok⟩; have HB6 : Hid (OwnPa w6 w.heap.size (.slice a 0 c) (p.take 0) ∧ Below w.heap.size w w6) := ⟨HP5.out.1.2.below ok, below_then HP5.out.2 ok⟩; clear ok HP5)
          | (at_builtin; refine wp_keepN rfl _ _ rfl rfl HOW.out hBr rfl hwide ?_; intro v5 w5 h1 h2 h3; have HP5 := hide3 (HAF.out v5 w5 h1 h2 h3); clear h1 h2 h3))
        go_ret2
        exact ⟨by rw [HR.out]; rfl, HB7.out⟩
      · obtain ⟨i, rfl⟩ : ∃ i, j = i + 1 := ⟨j - 1, by omega⟩
        have HR := hide3 (HGO.out i rfl hq)
        have hic : i ≤ c := by omega
        clear HGO HEND hq
        go_wp2_with (first
          | (have _h := HB6; go_at_call 22; refine (HPC.out _ HB6.out.2).mono ?_; rintro e w7 ⟨rfl, ok⟩; have HB7 : Hid (OwnPa w7 w.heap.size (.slice a i c) (p.take i) ∧ Below w.heap.size w w7) := ⟨(HOC.out _ HB6.out.1 i (by omega)).below ok, below_then HB6.out.2 ok⟩; clear ok HB6)
          | (have _h := HP5; go_at_call 21; refine (HTC.out _ _ HP5.out.1.1).mono ?_; rintro e w6 ⟨rfl, ok⟩; have HB6 : Hid (OwnPa w6 w.heap.size (.slice a (i + 1) c) (p.take (i + 1)) ∧ Below w.heap.size w w6) := ⟨HP5.out.1.2.below ok, below_then HP5.out.2 ok⟩; clear ok HP5)
          | (at_builtin; refine wp_keepN rfl _ _ rfl rfl HOW.out hBr rfl hwide ?_; intro v5 w5 h1 h2 h3; have HP5 := hide3 (HAF.out v5 w5 h1 h2 h3); clear h1 h2 h3))
        exact ⟨⟨i, by omega, ⟨a, c, rfl, hic⟩, HB7.out.1, HB7.out.2, HR.out⟩, by simp⟩

theorem onDisk_no {w : World} (dv : Option Addr) (t s : ByteArray) (ht : t.size ≤ 140737488351232) (hno : dv = none ∨ parseV t.data.toList = none ∨ Sc.nameA s.data.toList = false) :
    Calls Tryz.prog 6 #[.pointer dv, .string t, .string s] w fun e w' => e = .returned (odA none) ∧ Below w.heap.size w w' := by
  have HN : Hid (∀ w1, Calls Tryz.prog 20 #[.string s] w1 fun e w' => e = .returned (.bool (Sc.nameA s.data.toList)) ∧ w' = w1) := Sc.Name_any s
  have HPR := hide3 (tParse_any t (by omega) (few_size ht) w)
  cases dv with
  | none =>
    clear hno
    go_enter Tryz.func6, Tryz.ntmps6
    go_wp2_with (first
      | (go_at_call 19; refine HPR.out.mono ?_; rintro e w1 ⟨v1, rfl, hov, hb1⟩; have HB1 := hide3 hb1; clear hov hb1)
      | (go_at_call 20; refine (HN.out _).mono ?_; rintro e w2 ⟨rfl, hw2⟩; subst w2))
    go_ret2
    exact ⟨rfl, HB1.out⟩
  | some a =>
    cases hp : (parseV t.data.toList).isSome with
    | false =>
      rw [hp] at HPR
      clear hno hp
      go_enter Tryz.func6, Tryz.ntmps6
      go_wp2_with (first
        | (go_at_call 19; refine HPR.out.mono ?_; rintro e w1 ⟨v1, rfl, hov, hb1⟩; have HB1 := hide3 hb1; clear hov hb1)
        | (go_at_call 20; refine (HN.out _).mono ?_; rintro e w2 ⟨rfl, hw2⟩; subst w2))
      go_ret2
      exact ⟨rfl, HB1.out⟩
    | true =>
      have hn : Sc.nameA s.data.toList = false := by
        rcases hno with h | h | h
        · cases h
        · rw [h] at hp; cases hp
        · exact h
      rw [hn] at HN
      rw [hp] at HPR
      clear hno hp hn
      go_enter Tryz.func6, Tryz.ntmps6
      go_wp2_with (first
        | (go_at_call 19; refine HPR.out.mono ?_; rintro e w1 ⟨v1, rfl, hov, hb1⟩; have HB1 := hide3 hb1; clear hov hb1)
        | (go_at_call 20; refine (HN.out _).mono ?_; rintro e w2 ⟨rfl, hw2⟩; subst w2))
      go_ret2
      exact ⟨rfl, HB1.out⟩

/-- OnDisk of package walkup. -/
theorem onDisk_any {B : Nat} {w : World} {d mb n : Nat} {rv : Value} {x : Dk.Ab} (h : Dk.IsDisk B w d mb n rv x) (t s : ByteArray) (ht : t.size ≤ 140737488351232) :
    Calls Tryz.prog 6 #[.pointer (some ⟨d, 0, none⟩), .string t, .string s] w fun e w' => e = .returned (odA (odV x.D t s)) ∧ Below w.heap.size w w' := by
  cases hp : parseV t.data.toList with
  | none =>
    rw [odV_no (Or.inl hp)]
    exact onDisk_no _ t s ht (Or.inr (Or.inl hp))
  | some p =>
    cases hn : Sc.nameA s.data.toList with
    | false =>
      rw [odV_no (Or.inr hn)]
      exact onDisk_no _ t s ht (Or.inr (Or.inr hn))
    | true =>
      rw [odV_yes hp hn]
      exact onDisk_walk h t s ht hp hn
end Go.Proofs.YtogpkhpephhbiaaGreatDoor
namespace Go.Proofs.YtogpkhpephhbiaaGreatDoor
open Go.RowKit
set_option maxRecDepth 100000

/-- What holds at the loop's door. -/
def OdD (D : DataW Unit) (p : List ByteArray) (s : ByteArray) (i : Int) : Prop := (∃ j : Nat, i = j ∧ j ≤ p.length ∧ odN D p s p.length = odN D p s j) ∨ (i = -1 ∧ odN D p s p.length = none)

set_option maxHeartbeats 3200000 in
theorem rOnDisk_walk {B : Nat} {w : World} {e0 : Nat} {lv rv : Value} {D : DataW Unit} {rs : List (Int × ByteArray × ByteArray)} {left : Int} (h : Dk.IsRef B w e0 lv rv (Dk.filesD D) rs left) (hG : Dk.Good D) (hS : Dk.Sound D) (hlen : (Dk.filesD D).length ≤ 3518437208800) (t s : ByteArray) (ht : t.size ≤ 140737488351232) {p : List ByteArray} (hp : parseV t.data.toList = some p) (hn : Sc.nameA s.data.toList = true) :
    Calls Tryz.prog 8 #[.pointer (some ⟨e0, 0, none⟩), .string t, .string s] w fun e w' => e = .returned (odA (odN D p s p.length)) ∧ Below w.heap.size w w' := by
  obtain ⟨hpl, hnp⟩ := parse_len ht hp
  have hs16 := name_size hn
  have HN : Hid (∀ w1, Calls Tryz.prog 26 #[.string s] w1 fun e w' => e = .returned (.bool true) ∧ w' = w1) := fun w1 => by have := Sc.rName_any s (by omega) w1; rw [hn] at this; exact this
  have HPR : Hid (Calls Tryz.prog 25 #[.string t] w fun e w' => ∃ v, e = .returned (.tuple #[v, .bool true]) ∧ OwnPa w' w.heap.size v p ∧ Below w.heap.size w w') := by
    have := rParseP_any t (by omega) (few_size ht) w
    rw [hp] at this
    exact this
  have HTX : Hid (∀ w1 v k, PathAt w1 v (p.take k ++ [s]) → Calls Tryz.prog 27 #[v] w1 fun e w' => e = .returned (.string (odT p s k)) ∧ Below w1.heap.size w1 w') := fun w1 v k hv => rTextP_w hv (by rw [List.length_append, List.length_take]; simp only [List.length_cons, List.length_nil]; omega) (fun y hy => by
    have hy2 : namesB (p.take k ++ [s]) = true := names_with hnp hn k
    unfold namesB at hy2
    have := name_size (List.all_eq_true.1 hy2 y hy)
    omega) (fun j _ _ => by
    have h1 := textN_take (p.take k ++ [s]) j
    have h2 := with_len hp hn k
    rw [textBA_size]
    omega)
  have HZ : Hid (∀ k, 0 < (odT p s k).size ∧ (odT p s k).size ≤ 140737488351257) := fun k => by
    have h2 := with_len hp hn k
    have h3 := textN_ge (names_with hnp hn k)
    rw [List.length_append] at h3
    rw [odT_eq hnp hn, textBA_size]
    simp only [List.length_cons, List.length_nil] at h3
    omega
  have HKD : Hid (∀ w1 t1, Below w.heap.size w w1 → Calls Tryz.prog 17 #[.pointer (some ⟨e0, 0, none⟩), .string t1] w1 fun e w' => e = .returned (.int .i64 (Dk.kindD D t1)) ∧ w' = w1) := fun w1 t1 hb => Dk.rKind_any (h.below hb) hG t1 hlen
  have HDI : Hid (∀ k, odK D p s k = 1 → Dk.kindD D (odT p s k) = 2) := fun k h1 => od_dir hS (HZ.out k).1 h1
  clear h hn hnp hp ht hlen hS hG
  go_enter Tryz.func8, Tryz.ntmps8
  go_wp2_with (first
    | (go_at_call 25; refine HPR.out.mono ?_; rintro e w1 ⟨v1, rfl, hov, hb1⟩; have HO1 := hide3 hov; have HB1 := hide3 hb1; obtain ⟨a1, c1, rfl, hc1⟩ := HO1.out.form; clear hov hb1)
    | (go_at_call 26; refine (HN.out _).mono ?_; rintro e w2 ⟨rfl, hw2⟩; subst w2))
  clear HPR HN
  have HJ : Hid (∀ w2, Below w1.heap.size w1 w2 → ∀ j, j ≤ p.length → Calls Tryz.prog 28 #[.slice a1 j c1, .string s] w2 fun e w' => ∃ a c, e = .returned (.slice a (j + 1) c) ∧ PathAt w' (.slice a (j + 1) c) (p.take j ++ [s]) ∧ Below w2.heap.size w2 w') := fun w2 hb j hj => by
    have hl : (p.take j).length = j := by rw [List.length_take]; omega
    have := joined_any ((HO1.out.at.cut hj).below hb) s (by rw [hl]; omega)
    rw [hl] at this
    exact this
  go_loopw [11] (fun vi wr => ∃ i : Int, vi = .int .i64 i ∧ Below w1.heap.size w1 wr ∧ OdD D p s i) (fun vi _ => (intOf vi + 1).toNat)
  case atStart => exact ⟨_, rfl, Below.refl _ _, Or.inl ⟨p.length, rfl, Nat.le_refl _, rfl⟩⟩
  case round =>
    obtain ⟨i, rfl, hb, hd⟩ := hrel
    have HB := hide3 hb
    rcases hd with ⟨j, rfl, hj, hst⟩ | ⟨rfl, hst⟩
    · have HST := hide3 hst
      have HJC := hide3 (fun W (hW : Below w1.heap.size w1 W) => HJ.out W hW j hj)
      have HTC := hide3 (fun W v hv => HTX.out W v j hv)
      have hzs := (HZ.out j).2
      have e1 := fun W : World => run_string_add_sum (P := Tryz.prog) (w := W) (odT p s j) pkgS (by rw [pkgS_size]; omega)
      have HK1 : Hid (∀ W, Below w1.heap.size w1 W → Calls Tryz.prog 17 #[.pointer (some ⟨e0, 0, none⟩), .string (odT p s j)] W fun e w' => e = .returned (.int .i64 (Dk.kindD D (odT p s j))) ∧ w' = W) := fun W hW => HKD.out W _ (below_then HB1.out hW)
      have HK2 : Hid (∀ W, Below w1.heap.size w1 W → Calls Tryz.prog 17 #[.pointer (some ⟨e0, 0, none⟩), .string (odT p s j ++ pkgS)] W fun e w' => e = .returned (.int .i64 (odK D p s j)) ∧ w' = W) := fun W hW => HKD.out W _ (below_then HB1.out hW)
      have HHIT : Hid (odK D p s j = 1 → odN D p s p.length = some (odT p s j) ∧ Dk.kindD D (odT p s j) = 2) := fun h => ⟨by rw [HST.out]; exact od_hit h, HDI.out j h⟩
      have HEND : Hid (odK D p s j ≠ 1 → j = 0 → odN D p s p.length = none) := fun h h2 => by rw [HST.out]; subst h2; exact od_end h
      have HGO : Hid (∀ i, j = i + 1 → odK D p s j ≠ 1 → odN D p s p.length = odN D p s i) := fun i h h2 => by rw [HST.out]; subst h; exact od_miss h2
      have hjc : j ≤ c1 := by omega
      unfold pkgS at e1 HK2
      generalize odT p s j = tx at *
      generalize odK D p s j = kf at *
      generalize Dk.kindD D tx = kd at *
      clear hst hb hzs
      have hjg : ((j : Int) ≥ 0) = True := eq_true (by omega)
      by_cases hq : kf = 1
      · obtain ⟨r1, r2⟩ := HHIT.out hq
        have HR := hide3 r1
        subst hq r2
        clear HHIT HEND HGO r1
        go_wp2_with (first
          | (have _h := HB4; go_at_call 17; refine (HK2.out _ HB4.out).mono ?_; rintro e w6 ⟨rfl, hw6⟩; subst w6; clear HB4)
          | (have _h := HB3; go_at_call 17; refine (HK1.out _ HB3.out).mono ?_; rintro e w5 ⟨rfl, hw5⟩; subst w5; have HB4 := HB3; have HB5 := HB3; clear HB3)
          | (have _h := HP2; go_at_call 27; refine (HTC.out _ _ HP2.out).mono ?_; rintro e w4 ⟨rfl, ok⟩; have HB3 := hide3 (below_then HB2.out ok); clear ok HP2)
          | (go_at_call 28; refine (HJC.out _ HB.out).mono ?_; rintro e w3 ⟨a3, c3, rfl, hp3, ok⟩; have HP2 := hide3 hp3; have HB2 := hide3 (below_then HB.out ok); clear hp3 ok))
        go_ret2
        exact ⟨by rw [HR.out]; rfl, below_then HB1.out HB5.out⟩
      · have hq2 : (kf == 1) = false := beq_eq_false_iff_ne.2 hq
        clear HHIT
        cases hk2 : (kd == 2)
        · rcases Nat.eq_zero_or_pos j with h0 | h0
          · have HR := hide3 (HEND.out hq h0)
            subst h0
            clear HGO HEND hq
            go_wp2_with (first
              | (have _h := HB4; go_at_call 17; refine (HK2.out _ HB4.out).mono ?_; rintro e w6 ⟨rfl, hw6⟩; subst w6; clear HB4)
              | (have _h := HB3; go_at_call 17; refine (HK1.out _ HB3.out).mono ?_; rintro e w5 ⟨rfl, hw5⟩; subst w5; have HB4 := HB3; have HB5 := HB3; clear HB3)
              | (have _h := HP2; go_at_call 27; refine (HTC.out _ _ HP2.out).mono ?_; rintro e w4 ⟨rfl, ok⟩; have HB3 := hide3 (below_then HB2.out ok); clear ok HP2)
              | (go_at_call 28; refine (HJC.out _ HB.out).mono ?_; rintro e w3 ⟨a3, c3, rfl, hp3, ok⟩; have HP2 := hide3 hp3; have HB2 := hide3 (below_then HB.out ok); clear hp3 ok))
            exact ⟨⟨-1, by go_num, HB5.out, Or.inr ⟨rfl, HR.out⟩⟩, by simp [intOf]⟩
          · obtain ⟨i, rfl⟩ : ∃ i, j = i + 1 := ⟨j - 1, by omega⟩
            have HR := hide3 (HGO.out i rfl hq)
            clear HGO HEND hq
            go_wp2_with (first
              | (have _h := HB4; go_at_call 17; refine (HK2.out _ HB4.out).mono ?_; rintro e w6 ⟨rfl, hw6⟩; subst w6; clear HB4)
              | (have _h := HB3; go_at_call 17; refine (HK1.out _ HB3.out).mono ?_; rintro e w5 ⟨rfl, hw5⟩; subst w5; have HB4 := HB3; have HB5 := HB3; clear HB3)
              | (have _h := HP2; go_at_call 27; refine (HTC.out _ _ HP2.out).mono ?_; rintro e w4 ⟨rfl, ok⟩; have HB3 := hide3 (below_then HB2.out ok); clear ok HP2)
              | (go_at_call 28; refine (HJC.out _ HB.out).mono ?_; rintro e w3 ⟨a3, c3, rfl, hp3, ok⟩; have HP2 := hide3 hp3; have HB2 := hide3 (below_then HB.out ok); clear hp3 ok))
            exact ⟨⟨(i : Int), by go_num, HB5.out, Or.inl ⟨i, rfl, by omega, HR.out⟩⟩, by simp [intOf]; omega⟩
        · rcases Nat.eq_zero_or_pos j with h0 | h0
          · have HR := hide3 (HEND.out hq h0)
            subst h0
            clear HGO HEND hq
            go_wp2_with (first
              | (have _h := HB4; go_at_call 17; refine (HK2.out _ HB4.out).mono ?_; rintro e w6 ⟨rfl, hw6⟩; subst w6; clear HB4)
              | (have _h := HB3; go_at_call 17; refine (HK1.out _ HB3.out).mono ?_; rintro e w5 ⟨rfl, hw5⟩; subst w5; have HB4 := HB3; have HB5 := HB3; clear HB3)
              | (have _h := HP2; go_at_call 27; refine (HTC.out _ _ HP2.out).mono ?_; rintro e w4 ⟨rfl, ok⟩; have HB3 := hide3 (below_then HB2.out ok); clear ok HP2)
              | (go_at_call 28; refine (HJC.out _ HB.out).mono ?_; rintro e w3 ⟨a3, c3, rfl, hp3, ok⟩; have HP2 := hide3 hp3; have HB2 := hide3 (below_then HB.out ok); clear hp3 ok))
            exact ⟨⟨-1, by go_num, HB5.out, Or.inr ⟨rfl, HR.out⟩⟩, by simp [intOf]⟩
          · obtain ⟨i, rfl⟩ : ∃ i, j = i + 1 := ⟨j - 1, by omega⟩
            have HR := hide3 (HGO.out i rfl hq)
            clear HGO HEND hq
            go_wp2_with (first
              | (have _h := HB4; go_at_call 17; refine (HK2.out _ HB4.out).mono ?_; rintro e w6 ⟨rfl, hw6⟩; subst w6; clear HB4)
              | (have _h := HB3; go_at_call 17; refine (HK1.out _ HB3.out).mono ?_; rintro e w5 ⟨rfl, hw5⟩; subst w5; have HB4 := HB3; have HB5 := HB3; clear HB3)
              | (have _h := HP2; go_at_call 27; refine (HTC.out _ _ HP2.out).mono ?_; rintro e w4 ⟨rfl, ok⟩; have HB3 := hide3 (below_then HB2.out ok); clear ok HP2)
              | (go_at_call 28; refine (HJC.out _ HB.out).mono ?_; rintro e w3 ⟨a3, c3, rfl, hp3, ok⟩; have HP2 := hide3 hp3; have HB2 := hide3 (below_then HB.out ok); clear hp3 ok))
            exact ⟨⟨(i : Int), by go_num, HB5.out, Or.inl ⟨i, rfl, by omega, HR.out⟩⟩, by simp [intOf]; omega⟩
    · have HST := hide3 hst
      clear hst hb
      go_wp2
      go_ret2
      exact ⟨by rw [HST.out]; rfl, below_then HB1.out HB.out⟩

theorem rOnDisk_no {w : World} (dv : Option Addr) (t s : ByteArray) (ht : t.size ≤ 140737488351232) (hs : s.size ≤ 9223372036854775807) (hno : parseV t.data.toList = none ∨ Sc.nameA s.data.toList = false) :
    Calls Tryz.prog 8 #[.pointer dv, .string t, .string s] w fun e w' => e = .returned (odA none) ∧ Below w.heap.size w w' := by
  have HN : Hid (∀ w1, Calls Tryz.prog 26 #[.string s] w1 fun e w' => e = .returned (.bool (Sc.nameA s.data.toList)) ∧ w' = w1) := fun w1 => Sc.rName_any s hs w1
  have HPR := hide3 (rParseP_any t (by omega) (few_size ht) w)
  cases hp : (parseV t.data.toList).isSome with
  | false =>
    rw [hp] at HPR
    generalize Sc.nameA s.data.toList = nb at *
    clear hno hp
    go_enter Tryz.func8, Tryz.ntmps8
    go_wp2_with (first
      | (go_at_call 25; refine HPR.out.mono ?_; rintro e w1 ⟨v1, rfl, hov, hb1⟩; have HB1 := hide3 hb1; clear hov hb1)
      | (go_at_call 26; refine (HN.out _).mono ?_; rintro e w2 ⟨rfl, hw2⟩; subst w2))
    go_ret2
    exact ⟨rfl, HB1.out⟩
  | true =>
    have hn : Sc.nameA s.data.toList = false := by
      rcases hno with h | h
      · rw [h] at hp; cases hp
      · exact h
    rw [hn] at HN
    rw [hp] at HPR
    clear hno hp hn
    go_enter Tryz.func8, Tryz.ntmps8
    go_wp2_with (first
      | (go_at_call 25; refine HPR.out.mono ?_; rintro e w1 ⟨v1, rfl, hov, hb1⟩; have HB1 := hide3 hb1; clear hov hb1)
      | (go_at_call 26; refine (HN.out _).mono ?_; rintro e w2 ⟨rfl, hw2⟩; subst w2))
    go_ret2
    exact ⟨rfl, HB1.out⟩

/-- The document's OnDisk. -/
theorem rOnDisk_any {B : Nat} {w : World} {e0 : Nat} {lv rv : Value} {D : DataW Unit} {rs : List (Int × ByteArray × ByteArray)} {left : Int} (h : Dk.IsRef B w e0 lv rv (Dk.filesD D) rs left) (hG : Dk.Good D) (hS : Dk.Sound D) (hlen : (Dk.filesD D).length ≤ 3518437208800) (t s : ByteArray) (ht : t.size ≤ 140737488351232) (hs : s.size ≤ 9223372036854775807) :
    Calls Tryz.prog 8 #[.pointer (some ⟨e0, 0, none⟩), .string t, .string s] w fun e w' => e = .returned (odA (odV D t s)) ∧ Below w.heap.size w w' := by
  cases hp : parseV t.data.toList with
  | none =>
    rw [odV_no (Or.inl hp)]
    exact rOnDisk_no _ t s ht hs (Or.inl hp)
  | some p =>
    cases hn : Sc.nameA s.data.toList with
    | false =>
      rw [odV_no (Or.inr hn)]
      exact rOnDisk_no _ t s ht hs (Or.inr hn)
    | true =>
      rw [odV_yes hp hn]
      exact rOnDisk_walk h hG hS hlen t s ht hp hn
end Go.Proofs.YtogpkhpephhbiaaGreatDoor
namespace Go.Proofs.YtogpkhpephhbiaaGreatDoor
open Go.RowKit
set_option maxRecDepth 100000

theorem load_all {fs : List Dk.Fl} (h : Dk.Loads fs) : ∀ f ∈ fs, Dk.okPath f.1 = true := fun f hf => by
  obtain ⟨i, hi, rfl⟩ := List.getElem_of_mem hf
  exact Dk.okF_path (h.1 i hi).1

set_option maxHeartbeats 3200000 in
theorem walkupDisk_walk {fs : List Dk.Fl} {a : Option Addr} {cap : Nat} {w : World} (hlen : fs.length ≤ 3518437208790) (hc : Dk.IsFiles w a fs) (hz : ∀ f ∈ fs, f.1.size ≤ maxLen ∧ f.2.2.size ≤ maxLen) (t s : ByteArray) (ht : t.size ≤ 140737488351232) (hs : s.size ≤ 9223372036854775807) (m : Int) (hm : w.cell? ⟨0, 0, none⟩ = some (.int .i64 m)) (he : Env w) (hfl : FL w) :
    Calls Tryz.prog 3 #[.slice a fs.length cap, .string t, .string s] w fun e w' => e = .returned (.bool true) ∧ Below w.heap.size w w' := by
  have HL1 : Hid (Calls Tryz.prog 4 #[.slice a fs.length cap] w (Dk.LoadQ w fs)) := Dk.Load_any fs a cap m w hm (by omega) hc hz
  have HL2 : Hid (∀ W, Below w.heap.size w W → Calls Tryz.prog 5 #[.slice a fs.length cap] W (Dk.RLoadQ W fs)) := fun W hb => Dk.rLoad_any fs a cap W (by omega) (hc.below hb) hz
  have HLV : Hid (∀ w1, Below w.heap.size w w1 → Calls Tryz.prog 7 #[] w1 fun e w' => e = .returned (.bool true) ∧ Below w1.heap.size w1 w') := fun w1 hb => lives_any (he.below hb) (hfl.below hb)
  have HNO : Hid (∀ w1, Calls Tryz.prog 6 #[.pointer none, .string t, .string s] w1 fun e w' => e = .returned (.tuple #[.string ⟨#[]⟩, .bool false]) ∧ Below w1.heap.size w1 w') := fun w1 => onDisk_no none t s ht (Or.inl rfl)
  have HFL : Hid (Dk.Loads fs → (Dk.filesD (Dk.loadD fs)).length = fs.length ∧ Dk.Good (Dk.loadD fs) ∧ Dk.Sound (Dk.loadD fs)) := fun h => ⟨Dk.len_load fs (Dk.plain_load fs (load_all h)) (Dk.loads_apart h.1), (Dk.plain_load fs (load_all h)).good, Dk.load_sound h⟩
  have HD1 : Hid (∀ (w1 W : World) n, Dk.IsDisk w.heap.size w1 (w.heap.size + 1) w.heap.size n (.slice none 0 0) ⟨Dk.loadD fs, [], -1⟩ → Below w1.heap.size w1 W → Calls Tryz.prog 6 #[.pointer (some ⟨w.heap.size + 1, 0, none⟩), .string t, .string s] W fun e w' => e = .returned (odA (odV (Dk.loadD fs) t s)) ∧ Below W.heap.size W w') := fun w1 W n h hb => onDisk_any (h.below hb) t s ht
  have HD2 : Hid (∀ (w1 w2 W : World) lv rv, Dk.Loads fs → Dk.IsRef w1.heap.size w2 w1.heap.size lv rv (Dk.filesD (Dk.loadD fs)) [] (-1) → Below w2.heap.size w2 W → Calls Tryz.prog 8 #[.pointer (some ⟨w1.heap.size, 0, none⟩), .string t, .string s] W fun e w' => e = .returned (odA (odV (Dk.loadD fs) t s)) ∧ Below W.heap.size W w') := fun w1 w2 W lv rv hL h hb => by
    obtain ⟨h1, h2, h3⟩ := HFL.out hL
    exact rOnDisk_any (h.below hb) h2 h3 (by omega) t s ht hs
  clear hc hz hm he hfl HFL
  by_cases hL : Dk.Loads fs
  · have HLL := hide3 hL
    clear hL
    generalize odV (Dk.loadD fs) t s = r at *
    unfold odA at HD1 HD2
    generalize r.getD ⟨#[]⟩ = rs at *
    generalize r.isSome = rb at *
    go_enter Tryz.func3, Tryz.ntmps3
    go_wp2_with (first
      | (have _t := HB4; go_at_call 7; refine (HLV.out _ HB4.out).mono ?_; rintro e w5 ⟨rfl, hb5⟩; have HB5 := hide3 (below_then HB4.out hb5); clear hb5)
      | (have _t := HB3; go_at_call 8; refine (HD2.out _ _ _ _ _ HLL.out HRR.out HB3.out.2).mono ?_; rintro e w4 ⟨rfl, hb4⟩; have HB4 := hide3 (below_then HB3.out.1 hb4); clear hb4 HB3)
      | (have _t := HB2; go_at_call 6; refine (HD1.out _ _ _ HDD.out HB2.out.2).mono ?_; rintro e w3 ⟨rfl, hb3⟩; have HB3 : Hid (Below w.heap.size w w3 ∧ Below w2.heap.size w2 w3) := ⟨below_then HB2.out.1 hb3, hb3⟩; clear hb3 HB2)
      | (have _t := HB1; go_at_call 5; refine (HL2.out _ HB1.out).mono ?_; rintro e w2 ⟨hb2, hq2⟩; obtain ⟨_, rfl, lv, rv, hr2⟩ := hq2.resolve_right (fun h => h.1 HLL.out); have HB2 : Hid (Below w.heap.size w w2 ∧ Below w1.heap.size w1 w2) := ⟨below_then HB1.out hb2, hb2⟩; have HRR := hide3 hr2; clear hq2 hr2 hb2 HB1)
      | (go_at_call 4; refine HL1.out.mono ?_; rintro e w1 ⟨hb1, hq1⟩; obtain ⟨_, rfl, n1, hn1, hd1⟩ := hq1.resolve_right (fun h => h.1 HLL.out); have HB1 := hide3 hb1; have HDD := hide3 hd1; clear hq1 hd1 hb1 hn1))
    go_ret
    exact ⟨rfl, HB5.out⟩
  · have HLL := hide3 hL
    clear hL
    go_enter Tryz.func3, Tryz.ntmps3
    go_wp2_with (first
      | (have _t := HB3; go_at_call 7; refine (HLV.out _ HB3.out).mono ?_; rintro e w5 ⟨rfl, hb5⟩; have HB5 := hide3 (below_then HB3.out hb5); clear hb5)
      | (have _t := HB2; go_at_call 6; refine (HNO.out _).mono ?_; rintro e w3 ⟨rfl, hb3⟩; have HB3 := hide3 (below_then HB2.out hb3); clear hb3 HB2)
      | (have _t := HB1; go_at_call 5; refine (HL2.out _ HB1.out).mono ?_; rintro e w2 ⟨hb2, hq2⟩; obtain ⟨_, rfl⟩ := hq2.resolve_left (fun h => HLL.out h.1); have HB2 := hide3 (below_then HB1.out hb2); clear hq2 hb2 HB1)
      | (go_at_call 4; refine HL1.out.mono ?_; rintro e w1 ⟨hb1, hq1⟩; obtain ⟨_, rfl⟩ := hq1.resolve_left (fun h => HLL.out h.1); have HB1 := hide3 hb1; clear hq1 hb1))
    go_ret
    exact ⟨rfl, HB5.out⟩
end Go.Proofs.YtogpkhpephhbiaaGreatDoor
namespace Go.Proofs.YtogpkhpephhbiaaGreatDoor
open Go.RowKit
set_option maxRecDepth 100000

theorem alt_known : altR ⟨#[94, 49, 46, 50, 46, 51]⟩ = some [(1002003, 1999999)] := by decide +kernel
theorem pieces_known : piecesB ⟨#[94, 49, 46, 50, 46, 51]⟩ ⟨#[124, 124]⟩ = [⟨#[94, 49, 46, 50, 46, 51]⟩] := by decide +kernel
theorem pieces_known2 : piecesB ⟨#[94, 49, 46, 50, 46, 51]⟩ ⟨#[32]⟩ = [⟨#[94, 49, 46, 50, 46, 51]⟩] := by decide +kernel
theorem print_known : printR [(1002003, 1999999)] = ⟨#[62, 61, 49, 46, 50, 46, 51, 32, 60, 61, 49, 46, 57, 57, 57, 46, 57, 57, 57]⟩ := by decide +kernel
theorem rg_known : RangeR [(1002003, 1999999)] := ⟨by decide, by decide, by decide, trivial⟩
theorem in_known : inL (([(1002003, 1999999)] : Rg).map spR) 1 9 0 = true := by
  rw [in_rg rg_known (by decide)]
  exact ⟨by decide, Or.inl (by decide)⟩
theorem ascii_of {l : List UInt8} (h : (l.all fun b => decide (b.toNat < 128)) = true) : ∀ (j : Nat) b, l[j]? = some b → b.toNat < 128 := by
  intro j b hj
  have := List.all_eq_true.1 h b (List.mem_of_getElem? hj)
  simpa using this
theorem plain_known : PlainT ⟨#[94, 49, 46, 50, 46, 51]⟩ := by
  unfold PlainT
  rw [pieces_known]
  intro a ha
  rw [List.mem_singleton] at ha
  subst ha
  rw [pieces_known2]
  intro p hp _
  rw [List.mem_singleton] at hp
  subst hp
  exact Or.inr (ascii_of (by decide))

end Go.Proofs.YtogpkhpephhbiaaGreatDoor
namespace Go.Proofs.YtogpkhpephhbiaaGreatDoor
open Go.ChangeShapes Go.WideShapes Go.ChangeAt Go.RowKit
set_option maxRecDepth 100000

theorem star : "*" ++ "errors.errorString" = "*errors.errorString" := by decide

theorem max_cell {W : World} (h : W.ShapedOpen Tryz.prog) : ∃ m, W.cell? ⟨0, 0, none⟩ = some (.int .i64 m) :=
  cell_of_shapedOpen_int (t := 3) (zero := #[.int .i64 0]) h (by decide +kernel) (by kernel_rfl) rfl (by kernel_rfl) (by kernel_rfl) Tryz.underlying3

end Go.Proofs.YtogpkhpephhbiaaGreatDoor
namespace Go.Proofs.YtogpkhpephhbiaaGreatDoor
open Go.ChangeShapes Go.WideShapes Go.ChangeAt Go.RowKit
set_option maxRecDepth 100000

theorem cellsSp : Tryz.prog.cellsOf 148 = 6 := by kernel_rfl

theorem ints_of {H : Type} {enc : TypeId × Value → H} {W : World} {base : Nat} {spare : Nat → Bool} {held : Bool} {n : Nat} {cs : List Value} {x : DataW H × List MemPlace} (h : DataW.trod enc Tryz.prog W base spare held n 59 cs = some x) :
    ∃ a b c, cs[0]? = some (.int .i64 a) ∧ cs[1]? = some (.int .i64 b) ∧ cs[2]? = some (.int .i64 c) ∧ x.1 = .agg [.lit (.int .i64 a), .lit (.int .i64 b), .lit (.int .i64 c)] := by
  have hs : Tryz.prog.underlying 59 = some (.struct (Tryz.prog.fieldsOf 59)) := by kernel_rfl
  obtain ⟨xs, n', _, hx, _, hxl, hf⟩ := DataW.trod_struct hs h
  have hfz : (Tryz.prog.fieldsOf 59).size = 3 := by kernel_rfl
  have ints : ∀ i off, ((Tryz.prog.fieldsOf 59)[i]?).map (fun f => (f.type, f.offset)) = some (3, off) → i < 3 → ∃ k, cs[off]? = some (.int .i64 k) ∧ xs[i]? = some (.lit (.int .i64 k), []) := by
    intro i off hfd hi
    obtain ⟨f, h1, h2, h3⟩ := field_at hfd
    have hr := hf i f h1
    rw [h2, h3, cellsInt, List.getElem?_eq_getElem (by omega : i < xs.length)] at hr
    obtain ⟨k, e1, e2, wk⟩ := DataW.trod_int Tryz.underlying3 hr
    exact ⟨k, take_one e1, by rw [List.getElem?_eq_getElem (by omega : i < xs.length), e2]⟩
  obtain ⟨a, a0, x0⟩ := ints 0 0 (by kernel_rfl) (by decide)
  obtain ⟨b, a1, x1⟩ := ints 1 1 (by kernel_rfl) (by decide)
  obtain ⟨c, a2, x2⟩ := ints 2 2 (by kernel_rfl) (by decide)
  refine ⟨a, b, c, a0, a1, a2, ?_⟩
  rw [hx]
  obtain ⟨y0, y1, y2, rfl⟩ := list3 (l := xs) (by omega)
  simp at x0 x1 x2
  subst x0 x1 x2
  rfl

theorem span_read {H : Type} {enc : TypeId × Value → H} {W : World} {base : Nat} {spare : Nat → Bool} {held : Bool} {n : Nat} {g o : Nat} {cs : List Value} {x : DataW H × List MemPlace} (hc : W.cells? base ⟨g, o, none⟩ 6 = some cs) (h : DataW.trod enc Tryz.prog W base spare held n 148 cs = some x) : ∃ s, SpAt W g o s := by
  have hs : Tryz.prog.underlying 148 = some (.struct (Tryz.prog.fieldsOf 148)) := by kernel_rfl
  obtain ⟨xs, n', _, _, _, hxl, hf⟩ := DataW.trod_struct hs h
  have hsz : (Tryz.prog.fieldsOf 148).size = 2 := by kernel_rfl
  obtain ⟨_, _, hq⟩ := World.cells?_some hc
  have vers : ∀ i off, ((Tryz.prog.fieldsOf 148)[i]?).map (fun f => (f.type, f.offset)) = some (59, off) → i < 2 → ∃ a b c, cs[off]? = some (.int .i64 a) ∧ cs[off + 1]? = some (.int .i64 b) ∧ cs[off + 2]? = some (.int .i64 c) := by
    intro i off hfd hi
    obtain ⟨f, h1, h2, h3⟩ := field_at hfd
    have hr := hf i f h1
    rw [h2, h3, cellsVer, List.getElem?_eq_getElem (by omega : i < xs.length)] at hr
    obtain ⟨a, b, c, e0, e1, e2, _⟩ := ints_of hr
    simp at e0 e1 e2
    exact ⟨a, b, c, e0, e1, e2⟩
  obtain ⟨a, b, c, a0, a1, a2⟩ := vers 0 0 (by kernel_rfl) (by decide)
  obtain ⟨x, y, z, a3, a4, a5⟩ := vers 1 3 (by kernel_rfl) (by decide)
  have ad : ∀ i, (⟨g, o, none⟩ : Addr).add i = ⟨g, o + i, none⟩ := fun i => by unfold Addr.add; split <;> simp_all
  have q0 := hq 0 (by decide)
  have q1 := hq 1 (by decide)
  have q2 := hq 2 (by decide)
  have q3 := hq 3 (by decide)
  have q4 := hq 4 (by decide)
  have q5 := hq 5 (by decide)
  rw [ad] at q0 q1 q2 q3 q4 q5
  exact ⟨⟨a, b, c, x, y, z⟩, by rw [← a0, ← q0]; rfl, by rw [← a1, ← q1], by rw [← a2, ← q2], by rw [← a3, ← q3], by rw [← a4, ← q4], by rw [← a5, ← q5]⟩

theorem list_of {P : Nat → Sp → Prop} : ∀ {n : Nat}, (∀ i, i < n → ∃ s, P i s) → ∃ L : List Sp, L.length = n ∧ ∀ i (h : i < L.length), P i L[i]
  | 0, _ => ⟨[], rfl, fun i h => by simp at h⟩
  | n + 1, h => by
    obtain ⟨L, hl, hP⟩ := list_of (n := n) fun i hi => h i (by omega)
    obtain ⟨s, hs⟩ := h n (by omega)
    refine ⟨L ++ [s], by simp [hl], fun i hi => ?_⟩
    by_cases hin : i < L.length
    · rw [List.getElem_append_left hin]; exact hP i hin
    · have : i = n := by simp at hi; omega
      subst this
      simpa [hl] using hs

/-- A list of spans that came in. -/
theorem open_spans {H : Type} {enc : TypeId × Value → H} {W : World} {base fuel : Nat} {held : Bool} {a : Option Addr} {len cap : Nat} {x : DataW H × List MemPlace} (h : DataW.trod enc Tryz.prog W base (fun _ => true) held fuel 135 [.slice a len cap] = some x) :
    ∃ L : List Sp, SpansC W (.slice a len cap) L := by
  rcases Go.Deep.open_slice Tryz.underlying135 h with ⟨hcs, _⟩ | ⟨ad, l, c, m, n, D, Pl, hcs, _, hl, _, hm, hx, hel⟩
  · simp only [List.cons.injEq, Value.slice.injEq, and_true] at hcs
    obtain ⟨rfl, rfl, rfl⟩ := hcs
    exact ⟨[], ⟨_, _, rfl, Or.inl rfl⟩, _, _, _, rfl, Nat.le_refl _⟩
  · simp only [List.cons.injEq, Value.slice.injEq, and_true] at hcs
    obtain ⟨rfl, rfl, rfl⟩ := hcs
    rcases Nat.eq_zero_or_pos len with h0 | h0
    · subst h0
      exact ⟨[], ⟨_, _, rfl, Or.inl rfl⟩, _, _, _, rfl, hl⟩
    · have hmm : len ≤ m := by rw [hm]; simp; exact hl
      rw [cellsSp] at hel
      obtain ⟨g, off, spot⟩ := ad
      obtain ⟨cs0, hc0, _⟩ := hel 0 (by omega)
      obtain ⟨_, hln, hq⟩ := World.cells?_some hc0
      have hcell := hq 0 (by decide)
      rw [List.getElem?_eq_getElem (by omega : 0 < cs0.length)] at hcell
      have hspot : spot = none := by simpa [Addr.add] using World.cell?_spot hcell
      subst hspot
      have ad2 : ∀ o i, (⟨g, o, none⟩ : Addr).add i = ⟨g, o + i, none⟩ := fun o i => by unfold Addr.add; split <;> simp_all
      obtain ⟨L, hL, hP⟩ := list_of (P := fun i s => SpAt W g (off + i * 6) s) (n := len) fun i hi => by
        obtain ⟨cs, hc, ht⟩ := hel i (by omega)
        rw [ad2] at hc
        exact span_read hc ht
      subst hL
      refine ⟨L, ⟨_, _, rfl, Or.inr ⟨g, off, rfl, ?_, hP⟩⟩, _, _, _, rfl, hl⟩
      have := cell_in hcell
      rw [ad2, ad2] at this; exact this

/-- A variable of three ints that is listed first. -/
theorem ver_laid {W : World} {nm : String} {a b c : Int} {r : List (String × DataW Unit)} {g : Nat} (hg : Tryz.prog.globalNamed nm = some g) (hty : (Tryz.prog.globals[g]?).map (·.type) = some 59)
    (h : laidMet Tryz.prog ((nm, .agg [.lit (.int .i64 a), .lit (.int .i64 b), .lit (.int .i64 c)]) :: r) W) :
    W.cell? ⟨g, 0, none⟩ = some (.int .i64 a) ∧ W.cell? ⟨g, 1, none⟩ = some (.int .i64 b) ∧ W.cell? ⟨g, 2, none⟩ = some (.int .i64 c) := by
  obtain ⟨ps, ⟨g', t', cs, fuel, p, q, hg', ht', hvar, hd, _, _⟩, _⟩ := h
  obtain rfl := Option.some.inj (hg.symm.trans hg')
  obtain rfl := Option.some.inj (hty.symm.trans ht')
  obtain ⟨x, y, z, e0, e1, e2, hx⟩ := ints_of hd
  simp at hx
  obtain ⟨rfl, rfl, rfl⟩ := hx
  have c0 := World.var?_cell hg hvar 0
  have c1 := World.var?_cell hg hvar 1
  have c2 := World.var?_cell hg hvar 2
  exact ⟨by rw [c0]; simpa using e0, by rw [c1]; simpa using e1, by rw [c2]; simpa using e2⟩

/-- What the rows of a layer without a parser list. -/
abbrev laid3 : List (String × DataW Unit) := [("math/bits.deBruijn32tab", Rows.laid_math_bits_deBruijn32tab), ("math/bits.deBruijn64tab", Rows.laid_math_bits_deBruijn64tab), ("internal/strconv.uint64pow10", Rows.laid_internal_strconv_uint64pow10), ("halyard/span.first", Rows.laid_halyard_span_first), ("halyard/span.last", Rows.laid_halyard_span_last)]
theorem env3_of {W : World} (h : laidMet Tryz.prog laid3 W) : Env W ∧ FL W := by
  have hT := tab_is h
  have h5 := laidMet.tail (laidMet.tail (laidMet.tail h))
  have h6 := laidMet.tail h5
  have f1 := ver_laid (g := 3) (by kernel_rfl) (by kernel_rfl) h5
  have f2 := ver_laid (g := 4) (by kernel_rfl) (by kernel_rfl) h6
  exact ⟨{ tab := hT }, f1, f2, cell_in f1.1, cell_in f2.1⟩

end Go.Proofs.YtogpkhpephhbiaaGreatDoor
namespace Go.Proofs.YtogpkhpephhbiaaGreatDoor
open Go.ChangeShapes Go.WideShapes Go.ChangeAt Go.RowKit
set_option maxRecDepth 100000

theorem cellsStrD : Tryz.prog.cellsOf 9 = 1 := by kernel_rfl
theorem cellsSps : Tryz.prog.cellsOf 135 = 1 := by kernel_rfl
theorem cellsDep : Tryz.prog.cellsOf 137 = 2 := by kernel_rfl
theorem cellsDeps : Tryz.prog.cellsOf 60 = 1 := by kernel_rfl
theorem list_any {α : Type} {P : Nat → α → Prop} : ∀ {n : Nat}, (∀ i, i < n → ∃ s, P i s) → ∃ L : List α, L.length = n ∧ ∀ i (h : i < L.length), P i L[i]
  | 0, _ => ⟨[], rfl, fun i h => by simp at h⟩
  | n + 1, h => by
    obtain ⟨L, hl, hP⟩ := list_any (n := n) fun i hi => h i (by omega)
    obtain ⟨s, hs⟩ := h n (by omega)
    refine ⟨L ++ [s], by simp [hl], fun i hi => ?_⟩
    by_cases hin : i < L.length
    · rw [List.getElem_append_left hin]; exact hP i hin
    · have : i = n := by simp at hi; omega
      subst this
      simpa [hl] using hs
theorem take1 {cs : List Value} {o : Nat} {v : Value} (h : (cs.drop o).take 1 = [v]) : cs[o]? = some v := by
  have h0 : ((cs.drop o).take 1)[0]? = some v := by rw [h]; rfl
  simpa using h0

theorem spans_cs {H : Type} {enc : TypeId × Value → H} {W : World} {base fuel : Nat} {held : Bool} {cs : List Value} {x : DataW H × List MemPlace} (h : DataW.trod enc Tryz.prog W base (fun _ => true) held fuel 135 cs = some x) :
    ∃ v L, cs = [v] ∧ SpansC W v L ∧ L.length ≤ 9223372036854775807 := by
  rcases Go.Deep.open_slice Tryz.underlying135 h with ⟨rfl, _⟩ | ⟨ad, l, c, m, n, D, Pl, rfl, _, hl, hm, _⟩
  · obtain ⟨L, hL⟩ := open_spans h
    obtain ⟨a', c', e, _⟩ := hL.1
    cases L with
    | nil => exact ⟨_, [], rfl, hL, by simp⟩
    | cons s L => simp at e
  · obtain ⟨L, hL⟩ := open_spans h
    refine ⟨_, L, rfl, hL, ?_⟩
    obtain ⟨a', c', e, _⟩ := hL.1
    simp only [Value.slice.injEq] at e
    obtain ⟨_, rfl, _⟩ := e
    unfold maxLen at hm
    omega
theorem dep_read {H : Type} {enc : TypeId × Value → H} {W : World} {base : Nat} {held : Bool} {n : Nat} {g o : Nat} {cs : List Value} {x : DataW H × List MemPlace} (hc : W.cells? base ⟨g, o, none⟩ 2 = some cs) (h : DataW.trod enc Tryz.prog W base (fun _ => true) held n 137 cs = some x) : ∃ d : Dp, (∃ u, DpIn W g o d u) ∧ d.nm.size ≤ 9223372036854775807 := by
  have hs : Tryz.prog.underlying 137 = some (.struct (Tryz.prog.fieldsOf 137)) := by kernel_rfl
  obtain ⟨xs, n', _, _, _, hxl, hf⟩ := DataW.trod_struct hs h
  have hsz : (Tryz.prog.fieldsOf 137).size = 2 := by kernel_rfl
  obtain ⟨_, hcl, hq⟩ := World.cells?_some hc
  obtain ⟨f0, i0, t0, o0⟩ := field_at (fs := Tryz.prog.fieldsOf 137) (i := 0) (ty := 9) (off := 0) (by kernel_rfl)
  obtain ⟨f1, i1, t1, o1⟩ := field_at (fs := Tryz.prog.fieldsOf 137) (i := 1) (ty := 135) (off := 1) (by kernel_rfl)
  have r0 := hf 0 f0 i0
  have r1 := hf 1 f1 i1
  rw [t0, o0, cellsStrD, List.getElem?_eq_getElem (by omega : 0 < xs.length)] at r0
  rw [t1, o1, cellsSps, List.getElem?_eq_getElem (by omega : 1 < xs.length)] at r1
  obtain ⟨s, e0, _, hs0⟩ := DataW.trod_string Tryz.underlying9 r0
  obtain ⟨v, L, e1, hL, hz⟩ := spans_cs r1
  have q0 := hq 0 (by decide)
  have q1 := hq 1 (by decide)
  have ad : ∀ i, (⟨g, o, none⟩ : Addr).add i = ⟨g, o + i, none⟩ := fun i => by unfold Addr.add; split <;> simp_all
  rw [ad, take1 e0] at q0
  rw [ad, take1 e1] at q1
  exact ⟨⟨s, L⟩, ⟨v, q0, q1, ⟨hL, hz⟩, cell_in q1⟩, by unfold maxLen at hs0; exact hs0⟩
/-- A list of dependencies that came in. -/
theorem deps_cs {H : Type} {enc : TypeId × Value → H} {W : World} {base fuel : Nat} {held : Bool} {cs : List Value} {x : DataW H × List MemPlace} (h : DataW.trod enc Tryz.prog W base (fun _ => true) held fuel 60 cs = some x) :
    ∃ v L, cs = [v] ∧ DepsAt W v L ∧ L.length ≤ 9223372036854775807 ∧ ∀ d ∈ L, d.nm.size ≤ 9223372036854775807 := by
  rcases Go.Deep.open_slice Tryz.underlying60 h with ⟨rfl, _⟩ | ⟨ad, len, cap, m, n, D, Pl, rfl, _, hl, hcm, hm, hx, hel⟩
  · exact ⟨_, [], rfl, ⟨none, 0, rfl, Nat.le_refl _, Or.inl rfl⟩, by simp, (fun d hd => by cases hd)⟩
  · have hz : len ≤ 9223372036854775807 := by unfold maxLen at hcm; omega
    rcases Nat.eq_zero_or_pos len with h0 | h0
    · subst h0
      exact ⟨_, [], rfl, ⟨_, _, rfl, Nat.zero_le _, Or.inl rfl⟩, by simp, (fun d hd => by cases hd)⟩
    · have hmm : len ≤ m := by rw [hm]; simp; exact hl
      rw [cellsDep] at hel
      obtain ⟨g, off, spot⟩ := ad
      obtain ⟨cs0, hc0, _⟩ := hel 0 (by omega)
      obtain ⟨_, hln, hq⟩ := World.cells?_some hc0
      have hcell := hq 0 (by decide)
      rw [List.getElem?_eq_getElem (by omega : 0 < cs0.length)] at hcell
      have hspot : spot = none := by simpa [Addr.add] using World.cell?_spot hcell
      subst hspot
      have ad2 : ∀ o i, (⟨g, o, none⟩ : Addr).add i = ⟨g, o + i, none⟩ := fun o i => by unfold Addr.add; split <;> simp_all
      obtain ⟨L, hL, hP⟩ := list_any (P := fun i (d : Dp) => (∃ u, DpIn W g (off + i * 2) d u) ∧ d.nm.size ≤ 9223372036854775807) (n := len) fun i hi => by
        obtain ⟨cs, hc, ht⟩ := hel i (by omega)
        rw [ad2] at hc
        exact dep_read hc ht
      subst hL
      refine ⟨_, L, rfl, ⟨_, _, rfl, hl, Or.inr ⟨g, off, rfl, ?_, fun i hi => (hP i hi).1⟩⟩, hz, ?_⟩
      · have := cell_in hcell
        rw [ad2, ad2] at this; exact this
      · intro d hd
        obtain ⟨i, hi, rfl⟩ := List.getElem_of_mem hd
        exact (hP i hi).2
end Go.Proofs.YtogpkhpephhbiaaGreatDoor
namespace Go.Proofs.YtogpkhpephhbiaaGreatDoor
open Go.ChangeShapes Go.WideShapes Go.ChangeAt Go.RowKit
set_option maxRecDepth 100000

theorem cellsPkg : Tryz.prog.cellsOf 62 = 7 := by kernel_rfl
theorem list7 {α : Type} {l : List α} (h : l.length = 7) : ∃ a b c d e f g, l = [a, b, c, d, e, f, g] := by
  match l, h with
  | [a, b, c, d, e, f, g], _ => exact ⟨a, b, c, d, e, f, g, rfl⟩
theorem open_pkg {H : Type} {enc : TypeId × Value → H} {W : World} {base b0 : Nat} {held : Bool} {v : Value} {d : DataW H} {p : List MemPlace} (hv : Value.okWide Tryz.prog W .any b0 62 v) (h : DataW.Trod enc Tryz.prog W base (fun _ => true) held 62 v d p) :
    ∃ (P : Pg) (v1 v2 v3 : Value), v = .agg #[.string P.nm, .int .i64 P.a, .int .i64 P.b, .int .i64 P.c, v1, v2, v3] ∧ PgAt W P v1 v2 v3 ∧ (P.d.length ≤ 9223372036854775807 ∧ P.p.length ≤ 9223372036854775807 ∧ P.o.length ≤ 9223372036854775807) ∧ (P.nm.size ≤ 9223372036854775807 ∧ (∀ d ∈ P.d, d.nm.size ≤ 9223372036854775807) ∧ (∀ d ∈ P.p, d.nm.size ≤ 9223372036854775807) ∧ ∀ d ∈ P.o, d.nm.size ≤ 9223372036854775807) := by
  have hs : Tryz.prog.underlying 62 = some (.struct (Tryz.prog.fieldsOf 62)) := by kernel_rfl
  obtain ⟨cs, rfl, hsz⟩ := okWide_struct hs hv
  obtain ⟨n, h⟩ := h
  obtain ⟨xs, n', _, _, _, hxl, hf⟩ := DataW.trod_struct hs h
  have hfz : (Tryz.prog.fieldsOf 62).size = 5 := by kernel_rfl
  rw [cellsPkg] at hsz
  obtain ⟨f0, i0, t0, o0⟩ := field_at (fs := Tryz.prog.fieldsOf 62) (i := 0) (ty := 9) (off := 0) (by kernel_rfl)
  obtain ⟨f1, i1, t1, o1⟩ := field_at (fs := Tryz.prog.fieldsOf 62) (i := 1) (ty := 59) (off := 1) (by kernel_rfl)
  obtain ⟨f2, i2, t2, o2⟩ := field_at (fs := Tryz.prog.fieldsOf 62) (i := 2) (ty := 60) (off := 4) (by kernel_rfl)
  obtain ⟨f3, i3, t3, o3⟩ := field_at (fs := Tryz.prog.fieldsOf 62) (i := 3) (ty := 60) (off := 5) (by kernel_rfl)
  obtain ⟨f4, i4, t4, o4⟩ := field_at (fs := Tryz.prog.fieldsOf 62) (i := 4) (ty := 60) (off := 6) (by kernel_rfl)
  have r0 := hf 0 f0 i0
  have r1 := hf 1 f1 i1
  have r2 := hf 2 f2 i2
  have r3 := hf 3 f3 i3
  have r4 := hf 4 f4 i4
  rw [t0, o0, cellsStrD, List.getElem?_eq_getElem (by omega : 0 < xs.length)] at r0
  rw [t1, o1, cellsVer, List.getElem?_eq_getElem (by omega : 1 < xs.length)] at r1
  rw [t2, o2, cellsDeps, List.getElem?_eq_getElem (by omega : 2 < xs.length)] at r2
  rw [t3, o3, cellsDeps, List.getElem?_eq_getElem (by omega : 3 < xs.length)] at r3
  rw [t4, o4, cellsDeps, List.getElem?_eq_getElem (by omega : 4 < xs.length)] at r4
  obtain ⟨s, e0, _, hs0⟩ := DataW.trod_string Tryz.underlying9 r0
  obtain ⟨a, b, c, ea, eb, ec, _⟩ := ints_of r1
  obtain ⟨v1, L1, e2, h1, z1, m1⟩ := deps_cs r2
  obtain ⟨v2, L2, e3, h2, z2, m2⟩ := deps_cs r3
  obtain ⟨v3, L3, e4, h3, z3, m3⟩ := deps_cs r4
  have k0 : cs.toList[0]? = some (.string s) := take1 e0
  have k2 : cs.toList[4]? = some v1 := take1 e2
  have k3 : cs.toList[5]? = some v2 := take1 e3
  have k4 : cs.toList[6]? = some v3 := take1 e4
  have ka : ((cs.toList.drop 1).take 3)[0]? = some (.int .i64 a) := ea
  have kb : ((cs.toList.drop 1).take 3)[1]? = some (.int .i64 b) := eb
  have kc : ((cs.toList.drop 1).take 3)[2]? = some (.int .i64 c) := ec
  obtain ⟨l⟩ := cs
  obtain ⟨x0, x1, x2, x3, x4, x5, x6, rfl⟩ := list7 (l := l) (by simpa using hsz)
  simp at k0 k2 k3 k4 ka kb kc
  subst k0 k2 k3 k4 ka kb kc
  exact ⟨⟨s, a, b, c, L1, L2, L3⟩, _, _, _, rfl, ⟨h1, h2, h3⟩, ⟨z1, z2, z3⟩, by unfold maxLen at hs0; exact hs0, m1, m2, m3⟩
end Go.Proofs.YtogpkhpephhbiaaGreatDoor
