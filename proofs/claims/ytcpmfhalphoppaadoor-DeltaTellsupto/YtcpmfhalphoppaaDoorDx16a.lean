/- The document's Deeds: four goes over the two sets. Conditions: sizes. -/
import Derived.Test.YtcpmfhalphoppaaDoorDx15
namespace Go.Proofs.YtcpmfhalphoppaaDoor
open Go.RowKit Go.Maps Go.WideMaps Go.WideElems Dk
set_option maxRecDepth 100000

theorem wp_de {B : Nat} {wx : World} {v : Value} {ds : List De} {ops : Array Oper} {rest : List Oper} {o : Oper} {f : Act} {Q : Exit → Act → World → Prop}
    (hgd : o.guard = none) (s t : Operand) (ho : o.op = .call { callee := .builtin .append, args := #[s, t], argTypes := #[23, 23] }) (hs : f.eval s = v)
    (hown : OwnDe wx B v ds) (hB : B ≤ wx.heap.size) (x : De) {M : Nat} (hM : wx.heap.size = M) (hx : f.eval t = .slice (some ⟨M, 0, none⟩) 1 1) (hlen : ds.length ≤ 1000000000)
    (h : ∀ v1 w1, OwnDe w1 B v1 (ds ++ [x]) → wx.grownBy w1 v.ownBlock → wpList Tryd.prog ops Q rest (f.put o.dst v1) w1) :
    wpList Tryd.prog ops Q (o :: rest) f (wx.alloc (.cells #[.int .i64 x.kd, .string x.pa, .string x.da] 33)) := by
  subst hM
  obtain ⟨i0, hi, hz0, hz1, hz2⟩ := info_parts infoDe
  refine wpList_append_own _ hgd s t 23 ho B 33 i0 _ 3 40 Tryd.underlying23 hi hz0 hz1 hz2 rfl (by decide) v ds.length _ hs (World.ownsRow.alloc hown _) ⟨wx.heap.size, 0, none⟩ 1 1 [.int .i64 x.kd, .string x.pa, .string x.da] hx rfl (news_deed wx x.kd x.pa x.da) (by simp [Value.oneCell']) (by unfold maxLen; omega) (by omega) (by simp; omega) ?_
  intro v1 w1 h1 h2 _
  exact h v1 w1 (OwnDe.snoc h1) (grown_pre ((Below.refl _ _).alloc (Nat.le_refl _) _) h2)
theorem down_one {f : Fl → De} {p : Fl → Bool} {L : List Fl} {j : Nat} (hj : j < L.length) : ((L.drop j).reverse.filter p).map f = ((L.drop (j + 1)).reverse.filter p).map f ++ (if p L[j] = true then [f L[j]] else []) := by
  rw [List.drop_eq_getElem_cons hj, List.reverse_cons, List.filter_append, List.map_append]
  congr 1
  cases h : p L[j] <;> simp [h]
theorem up_one {f : Fl → De} {p : Fl → Bool} {L : List Fl} {j : Nat} (hj : j < L.length) : ((L.take (j + 1)).filter p).map f = ((L.take j).filter p).map f ++ (if p L[j] = true then [f L[j]] else []) := by
  rw [List.take_succ_eq_append_getElem hj, List.filter_append, List.map_append]
  congr 1
  cases h : p L[j] <;> simp [h]
theorem len_down (f : Fl → De) (p : Fl → Bool) (L : List Fl) (k : Nat) : (((L.drop k).reverse.filter p).map f).length ≤ L.length := by
  rw [List.length_map]
  refine Nat.le_trans (List.length_filter_le _ _) ?_
  rw [List.length_reverse, List.length_drop]
  omega
theorem len_up (f : Fl → De) (p : Fl → Bool) (L : List Fl) (k : Nat) : (((L.take k).filter p).map f).length ≤ L.length := by
  rw [List.length_map]
  refine Nat.le_trans (List.length_filter_le _ _) ?_
  rw [List.length_take]
  omega

set_option maxHeartbeats 8000000 in
theorem rDeeds_no (fs gs : List Fl) (a b : Option Addr) (ca cb : Nat) (w : World) (hlf : fs.length ≤ 1048576) (hlg : gs.length ≤ 1048576) (hcf : IsFiles w a fs) (hcg : IsFiles w b gs)
    (hzf : ∀ f ∈ fs, f.1.size ≤ maxLen ∧ f.2.2.size ≤ maxLen) (hzg : ∀ f ∈ gs, f.1.size ≤ maxLen ∧ f.2.2.size ≤ maxLen) (hno : ¬ (OkJ fs ∧ OkJ gs)) :
    Calls Tryd.prog 7 #[.slice a fs.length ca, .slice b gs.length cb] w fun e w' => e = .returned (.tuple #[.slice none 0 0, .int .i64 1]) ∧ Below w.heap.size w w' := by
  have hb : ∀ xs : List Fl, ∃ c : Bool, (c = true ↔ Loads xs) := fun xs => by
    by_cases h : Loads xs
    · exact ⟨true, by simp [h]⟩
    · exact ⟨false, by simp [h]⟩
  obtain ⟨bF, hbF⟩ := hb fs
  obtain ⟨bG, hbG⟩ := hb gs
  have ld : ∀ (xs : List Fl) (o : Option Addr) (c : Nat) (bx : Bool), (bx = true ↔ Loads xs) → xs.length ≤ 1048576 → IsFiles w o xs → (∀ f ∈ xs, f.1.size ≤ maxLen ∧ f.2.2.size ≤ maxLen) → ∀ W, Below w.heap.size w W → Calls Tryd.prog 14 #[.slice o xs.length c] W fun e w' => ∃ po, e = .returned (.tuple #[.pointer po, .bool bx]) ∧ Below w.heap.size w w' := fun xs o c bx hbx hl hc hz W hW => (rLoad_any xs o c W hl (hc.below hW) hz).mono fun e w' hq => by
    obtain ⟨hb, ⟨hL, he, _⟩ | ⟨hn, he⟩⟩ := hq
    · rw [hbx.2 hL]
      exact ⟨_, he, hW.trans (hb.mono hW.size)⟩
    · have : bx = false := Bool.eq_false_iff.2 fun q => hn (hbx.1 q)
      rw [this]
      exact ⟨_, he, hW.trans (hb.mono hW.size)⟩
  have HF := hide3 (ld fs a ca bF hbF hlf hcf hzf)
  have HG := hide3 (ld gs b cb bG hbG hlg hcg hzg)
  have HCF : Hid (∀ W, Below w.heap.size w W → Calls Tryd.prog 15 #[.slice a fs.length ca] W fun e w' => e = .returned (.bool (clrB fs)) ∧ w' = W) := fun W hW => clear_any fs a ca W hlf (hcf.below hW) (fun f hf => (hzf f hf).1)
  have HCG : Hid (∀ W, Below w.heap.size w W → Calls Tryd.prog 15 #[.slice b gs.length cb] W fun e w' => e = .returned (.bool (clrB gs)) ∧ w' = W) := fun W hW => clear_any gs b cb W hlg (hcg.below hW) (fun f hf => (hzg f hf).1)
  have hall : ¬ (bF = true ∧ bG = true ∧ clrB fs = true ∧ clrB gs = true) := fun ⟨h1, h2, h3, h4⟩ => hno ⟨⟨hbF.1 h1, (clr_iff fs).1 h3⟩, ⟨hbG.1 h2, (clr_iff gs).1 h4⟩⟩
  have HB0 : Hid (Below w.heap.size w w) := Below.refl _ _
  clear ld hbF hbG hno hcf hcg hzf hzg hb
  generalize clrB fs = cF at *
  generalize clrB gs = cG at *
  cases bF <;> cases bG <;> cases cF <;> cases cG
  all_goals first
    | exact absurd ⟨rfl, rfl, rfl, rfl⟩ hall
    | (clear hall
       go_enter Tryd.func7, Tryd.ntmps7
       go_wp2_with (first
         | (have _t := HB3; go_at_call 15; refine (HCG.out _ HB2.out).mono ?_; rintro e w4 ⟨rfl, hw4⟩; subst w4)
         | (have _t := HB2; go_at_call 15; refine (HCF.out _ HB2.out).mono ?_; rintro e w3 ⟨rfl, hw3⟩; subst w3; have HB3 : True := trivial)
         | (have _t := HB1; go_at_call 14; refine (HG.out _ HB1.out).mono ?_; rintro e w2 ⟨po2, rfl, hb2⟩; have HB2 := hide3 hb2; clear hb2)
         | (go_at_call 14; refine (HF.out _ HB0.out).mono ?_; rintro e w1 ⟨po1, rfl, hb1⟩; have HB1 := hide3 hb1; clear hb1))
       go_ret2
       exact ⟨rfl, HB2.out⟩)
end Go.Proofs.YtcpmfhalphoppaaDoor
