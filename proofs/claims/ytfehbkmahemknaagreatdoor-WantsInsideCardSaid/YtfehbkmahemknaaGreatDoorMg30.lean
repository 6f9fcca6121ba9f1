/- Wf3, laid in one text. -/
import Derived.Deep.DeepAppendWide
import Derived.Test.YtfehbkmahemknaaGreatDoorMg29
namespace Go.Proofs.YtfehbkmahemknaaGreatDoor
open Go.RowKit Go.Maps Go.WideMaps
set_option maxRecDepth 100000

/-- Pins that lie anywhere, put behind pins of one's own, in a region that keeps its order. -/
theorem wp_ownPinsW {B : Nat} {wx : World} {slt : TypeId} {v x : Value} {ps qs : List Pn} {ops : Array Oper} {rest : List Oper} {o : Oper} {f : Act} {Q : Exit → Act → World → Prop}
    (hund : Tryz.prog.underlying slt = some (.slice 58))
    (hgd : o.guard = none) (s t : Operand) (ho : o.op = .call { callee := .builtin .append, args := #[s, t], argTypes := #[slt, slt] }) (hs : f.eval s = v)
    (hown : OwnPn wx B v ps) (hB : B ≤ wx.heap.size) (hx : f.eval t = x) (hxo : PinsAt wx x qs) (hps : ps.length ≤ 2048) (hlen : qs.length * 40 ≤ 140737488351232)
    (h : ∀ v1 w1, OwnPn w1 B v1 (ps ++ qs) → wx.grownBy w1 v.ownBlock → wpList Tryz.prog ops Q rest (f.put o.dst v1) w1) :
    wpList Tryz.prog ops Q (o :: rest) f wx := by
  by_cases hq : ps.length + qs.length ≤ 1000000000
  · exact wp_ownPins hund hgd s t ho hs hown hB hx hxo hq fun v1 w1 h1 h2 _ => h v1 w1 h1 h2
  · obtain ⟨ad, c2, rfl, hc2, hqq⟩ := hxo
    rcases hqq with e | ⟨g, off, rfl, _, hp⟩
    · rw [e] at hq
      simp at hq
      omega
    · obtain ⟨i0, hi, hz0, hz1, hz2⟩ := Sc.info_parts infoPn
      refine wpList_append_own_wide _ hgd s t slt ho B 58 i0 _ 4 40 hund hi hz0 hz1 hz2 rfl (by decide) v ps.length _ hs hown ⟨g, off, none⟩ qs.length c2 _ hx (encPn_len qs) (pins_news hp) (encPn_one qs) (by unfold maxLen; omega) (by omega) hB ?_
      intro v1 w1 h1 h2 _
      refine h v1 w1 ?_ h2
      unfold OwnPn
      rw [List.length_append, List.flatMap_append]
      exact h1
end Go.Proofs.YtfehbkmahemknaaGreatDoor
