/- Gl6: their declarations that are needed, laid in one text, remarks and blanks left out. -/
import Derived.Test.YtbhpfedjilkelaaGreatDoorMg16
namespace Go.Proofs.YtbhpfedjilkelaaGreatDoor
open Go.Shelf Go.RowKit
set_option maxRecDepth 100000
theorem tD {α:Type} (x y:α):eqB y x=eqB x y:=by
 by_cases h:x=y
 · rw [aL h,aL h.symm]
 · rw [bX h,bX fun e=>h e.symm]
set_option maxHeartbeats 3200000 in
theorem gR {A C:List Nd} {va vc:Value} {w:World} (ha:NodesAt w va A) (hc:NodesAt w vc C) (hzA:A.length≤9223372036854775807∧∀ n ∈ A,SzN n) (hzC:C.length≤9223372036854775807∧∀ n ∈ C,SzN n) (he:Env w) (hf:FL w):
 Calls Tryz.prog 6 #[.agg #[va],.agg #[vc]] w fun e w'=>e= .returned (.bool true)∧Below w.heap.size w w':=by
 have HR:Hid (∀ W,Below w.heap.size w W→Calls Tryz.prog 37 #[.agg #[va],.agg #[vc]] W fun e w'=>e= .returned (.bool (eqB A C))∧Below W.heap.size W w'):=fun W h=>lS (ha.below h) (hc.below h) hzA.1 hzA.2
 have HS1:Hid (∀ W,Below w.heap.size w W→Calls Tryz.prog 38 #[.agg #[va],.agg #[vc]] W fun e w'=>e= .returned (.bool (eqB A C))∧Below W.heap.size W w'):=fun W h=>dR (ha.below h) (hc.below h) hzA.1 hzA.2
 have HS2:Hid (∀ W,Below w.heap.size w W→Calls Tryz.prog 38 #[.agg #[vc],.agg #[va]] W fun e w'=>e= .returned (.bool (eqB A C))∧Below W.heap.size W w'):=fun W h=>by
  rw [←tD A C];exact dR (hc.below h) (ha.below h) hzC.1 hzC.2
 have HS3:Hid (∀ W,Below w.heap.size w W→Calls Tryz.prog 38 #[.agg #[va],.agg #[va]] W fun e w'=>e= .returned (.bool true)∧Below W.heap.size W w'):=fun W h=>by
  have q:=dR (ha.below h) (ha.below h) hzA.1 hzA.2;rw [aL rfl] at q;exact q
 have HLV:Hid (∀ W,Below w.heap.size w W→Calls Tryz.prog 28 #[] W fun e w'=>e= .returned (.bool true)∧Below W.heap.size W w'):=fun W h=>lT (he.below h) (hf.below h)
 obtain ⟨aa,ca,rfl⟩:=ha.sl;obtain ⟨ac,cc,rfl⟩:=hc.sl;clear ha hc hzA hzC he hf;generalize eqB A C=b at*;generalize A.length=la at*;generalize C.length=lc at*;have HKP:Hid (KeepP fun W=>Below w.heap.size w W∧BxG W w.heap.size (.slice aa la ca)∧BxG W (w.heap.size+1) (.slice ac lc cc)):=(aO w).and ((aS _ _).and (aS _ _));have HK0:Hid (Below w.heap.size w ((w.alloc (.cells #[.slice aa la ca] 55)).alloc (.cells #[.slice ac lc cc] 55))∧BxG ((w.alloc (.cells #[.slice aa la ca] 55)).alloc (.cells #[.slice ac lc cc] 55)) w.heap.size (.slice aa la ca)∧BxG ((w.alloc (.cells #[.slice aa la ca] 55)).alloc (.cells #[.slice ac lc cc] 55)) (w.heap.size+1) (.slice ac lc cc)):=⟨aB (aD _ _) (aD _ _),aS _ _ _ _ (BxG.new rfl _) (aD _ _),BxG.new (by simp) _⟩;cases b
 all_goals go_enter Tryz.func6,Tryz.ntmps6
 all_goals go_wp2_with (first
  |(go_at_call 37;refine (HR.out _ HK0.out.1).mono ?_;rintro e w1 ⟨rfl,ok⟩;have HK1:=aA (HKP.out _ _ HK0.out ok);obtain ⟨_,⟨y0,_⟩,⟨z0,_⟩⟩:=HK1.out;clear ok)
  |(go_at_call 28;refine (HLV.out _ HK4.out.1).mono ?_;rintro e w5 ⟨rfl,ok⟩;have HK5:=aA (HKP.out _ _ HK4.out ok);clear ok)
  |(have _t:=HK3;go_at_call 38;refine (HS3.out _ HK3.out.1).mono ?_;rintro e w4 ⟨rfl,ok⟩;have HK4:=aA (HKP.out _ _ HK3.out ok);obtain ⟨_,⟨y0,_⟩,⟨z0,_⟩⟩:=HK4.out;clear ok)
  |(have _t:=HK2;go_at_call 38;refine (HS2.out _ HK2.out.1).mono ?_;rintro e w3 ⟨rfl,ok⟩;have HK3:=aA (HKP.out _ _ HK2.out ok);obtain ⟨_,⟨y0,_⟩,⟨z0,_⟩⟩:=HK3.out;clear ok)
  |(have _t:=HK1;go_at_call 38;refine (HS1.out _ HK1.out.1).mono ?_;rintro e w2 ⟨rfl,ok⟩;have HK2:=aA (HKP.out _ _ HK1.out ok);obtain ⟨_,⟨y0,_⟩,⟨z0,_⟩⟩:=HK2.out;clear ok))
 all_goals go_ret
 all_goals exact ⟨rfl,HK5.out.1⟩
end Go.Proofs.YtbhpfedjilkelaaGreatDoor
