/- Mf1, Mf2, Gl4, Gp1, Wa5: their declarations that are needed, laid in one text, remarks and blanks left out. -/
import Derived.Test.YtbhpfedjilkelaaGreatDoorMg14
namespace Go.Proofs.YtbhpfedjilkelaaGreatDoor
open Go.RowKit
set_option maxRecDepth 100000
structure Mn where
 d:List Dp
 v:List Dp
 o:List Dp
 p:List Dp
def MnAt (w:World) (P:Mn) (v1 v2 v3 v4:Value):Prop:=DepsAt w v1 P.d∧DepsAt w v2 P.v∧DepsAt w v3 P.o∧DepsAt w v4 P.p
theorem MnAt.below {w w':World} {P:Mn} {v1 v2 v3 v4:Value} (h:MnAt w P v1 v2 v3 v4) (hb:Below w.heap.size w w'):MnAt w' P v1 v2 v3 v4:=⟨h.1.below hb,h.2.1.below hb,h.2.2.1.below hb,h.2.2.2.below hb⟩
def BxM (w:World) (N:Nat) (v1 v2 v3 v4:Value):Prop:=w.cell? ⟨N,0,none⟩=some v1∧w.cell? ⟨N,1,none⟩=some v2∧w.cell? ⟨N,2,none⟩=some v3∧w.cell? ⟨N,3,none⟩=some v4∧N<w.heap.size
theorem oE (N:Nat) (v1 v2 v3 v4:Value):KeepP fun w1=>BxM w1 N v1 v2 v3 v4:=fun w w' h hb=>by
 obtain ⟨h0,h1,h2,h3,h4⟩:=h;have q:∀ i,w'.cell? ⟨N,i,none⟩=w.cell? ⟨N,i,none⟩:=fun i=>hb.cell (p:=⟨N,i,none⟩) h4
 exact ⟨by rw [q];exact h0,by rw [q];exact h1,by rw [q];exact h2,by rw [q];exact h3,Nat.lt_of_lt_of_le h4 hb.size⟩
theorem BxM.new {w:World} {N:Nat} (hN:w.heap.size=N) (v1 v2 v3 v4:Value):BxM (w.alloc (.cells #[v1,v2,v3,v4] 57)) N v1 v2 v3 v4:=by
 subst hN;refine ⟨?_,?_,?_,?_,?_⟩<;>simp
def aW (v1 v2 v3 v4:Value):Obj:= .cells #[.string ⟨#[110,101,101,100,115]⟩,v1,.string ⟨#[100,101,118]⟩,v2,.string ⟨#[108,105,107,101,115]⟩,v3,.string ⟨#[112,105,110,115]⟩,v4] 208 (0,0)
theorem lK (a1 a2 a3 a4:Option Addr) (l1 l2 l3 l4 c1 c2 c3 c4:Nat) (w:World):
 Calls Tryz.prog 161 #[.agg #[.slice a1 l1 c1,.slice a2 l2 c2,.slice a3 l3 c3,.slice a4 l4 c4]] w fun e w'=>∃ g,e= .returned (.slice (some ⟨g,0,none⟩) 4 4)∧Below w.heap.size w w'∧w.heap.size≤g∧w'.heap[g]? =some (aW (.slice a1 l1 c1) (.slice a2 l2 c2) (.slice a3 l3 c3) (.slice a4 l4 c4)):=by
 go_enter Tryz.func161,Tryz.ntmps161
 go_wp2
 go_ret;refine ⟨w.heap.size+1,by first|rfl|simp,aT _ _ _,by omega,?_⟩;show ((w.heap.push _).push _)[w.heap.size+1]? =_;rw [Array.getElem?_push,if_pos (by simp)];rfl
noncomputable def dO (P:Mn):Bool:=(bB P.d&&(bB P.v&&(bB P.o&&bB P.p)))&&dI [P.d,P.v,P.o]
theorem uQ {w:World} {A B C:List Dp} {v1 v2 v3:Value} (h1:DepsAt w v1 A) (h2:DepsAt w v2 B) (h3:DepsAt w v3 C):nY (w.alloc (.cells #[v1,v2,v3] 32)) w.heap.size 0 [A,B,C]:=by
 refine ⟨by simp,fun k hk=> ?_⟩
 match k,hk with
 |0,_=>exact ⟨v1,by simp,h1.below (aD _ _)⟩
 |1,_=>exact ⟨v2,by simp,h2.below (aD _ _)⟩
 |2,_=>exact ⟨v3,by simp,h3.below (aD _ _)⟩
theorem wG {w:World} {A B C:List Dp} {v1 v2 v3:Value} (h1:DepsAt w v1 A) (h2:DepsAt w v2 B) (h3:DepsAt w v3 C) (k1:gG A) (k2:gG B) (k3:gG C):Calls Tryz.prog 198 #[.slice (some ⟨w.heap.size,0,none⟩) 3 3] (w.alloc (.cells #[v1,v2,v3] 32)) fun e w'=>e= .returned (.bool (dI [A,B,C]))∧Below (w.alloc (.cells #[v1,v2,v3] 32)).heap.size (w.alloc (.cells #[v1,v2,v3] 32)) w':=
 rZ (Ls:=[A,B,C]) (uQ h1 h2 h3) (fun L hL=>by
  simp only [List.mem_cons,List.not_mem_nil,or_false] at hL
  rcases hL with rfl|rfl|rfl<;>assumption) (by simp)
set_option maxHeartbeats 6400000 in
theorem lL {P:Mn} {v1 v2 v3 v4:Value} {w:World} (h:MnAt w P v1 v2 v3 v4):
 Calls Tryz.prog 160 #[.agg #[v1,v2,v3,v4]] w fun e w'=>e= .returned (.bool (dO P))∧Below w.heap.size w w':=by
 have HM1:Hid (∀ w1,Below w.heap.size w w1→Calls Tryz.prog 197 #[v1] w1 fun e w'=>e= .returned (.bool (bB P.d))∧Below w1.heap.size w1 w'):=fun w1 hb=>cJ (h.1.below hb)
 have HM2:Hid (∀ w1,Below w.heap.size w w1→Calls Tryz.prog 197 #[v2] w1 fun e w'=>e= .returned (.bool (bB P.v))∧Below w1.heap.size w1 w'):=fun w1 hb=>cJ (h.2.1.below hb)
 have HM3:Hid (∀ w1,Below w.heap.size w w1→Calls Tryz.prog 197 #[v3] w1 fun e w'=>e= .returned (.bool (bB P.o))∧Below w1.heap.size w1 w'):=fun w1 hb=>cJ (h.2.2.1.below hb)
 have HM4:Hid (∀ w1,Below w.heap.size w w1→Calls Tryz.prog 197 #[v4] w1 fun e w'=>e= .returned (.bool (bB P.p))∧Below w1.heap.size w1 w'):=fun w1 hb=>cJ (h.2.2.2.below hb)
 have HEO:Hid (bB P.d=true→bB P.v=true→bB P.o=true→∀ w1,Below w.heap.size w w1→Calls Tryz.prog 198 #[.slice (some ⟨w1.heap.size,0,none⟩) 3 3] (w1.alloc (.cells #[v1,v2,v3] 32)) fun e w'=>e= .returned (.bool (dI [P.d,P.v,P.o]))∧Below (w1.alloc (.cells #[v1,v2,v3] 32)).heap.size (w1.alloc (.cells #[v1,v2,v3] 32)) w'):=fun g1 g2 g3 w1 hb=>wG (h.1.below hb) (h.2.1.below hb) (h.2.2.1.below hb) (dS g1) (dS g2) (dS g3)
 have HSB:Hid (dO P=((bB P.d&&(bB P.v&&(bB P.o&&bB P.p)))&&dI [P.d,P.v,P.o])):=rfl;obtain ⟨a1,c1,rfl⟩:=h.1.sl;obtain ⟨a2,c2,rfl⟩:=h.2.1.sl;obtain ⟨a3,c3,rfl⟩:=h.2.2.1.sl;obtain ⟨a4,c4,rfl⟩:=h.2.2.2.sl;have HLI:Hid (∀ w1,Calls Tryz.prog 161 #[.agg #[.slice a1 P.d.length c1,.slice a2 P.v.length c2,.slice a3 P.o.length c3,.slice a4 P.p.length c4]] w1 fun e w'=>∃ g,e= .returned (.slice (some ⟨g,0,none⟩) 4 4)∧Below w1.heap.size w1 w'∧w1.heap.size≤g∧w'.heap[g]? =some (aW (.slice a1 P.d.length c1) (.slice a2 P.v.length c2) (.slice a3 P.o.length c3) (.slice a4 P.p.length c4))):=fun w1=>lK _ _ _ _ _ _ _ _ _ _ _ _ w1
 clear h;generalize dO P=SB at*;generalize dI [P.d,P.v,P.o]=ob at*;generalize bB P.d=m1 at*;generalize bB P.v=m2 at*;generalize bB P.o=m3 at*;generalize bB P.p=m4 at*;generalize P.d.length=l1 at*;generalize P.v.length=l2 at*;generalize P.o.length=l3 at*;generalize P.p.length=l4 at*;have HKB:Hid (KeepP fun w1=>BxM w1 w.heap.size (.slice a1 l1 c1) (.slice a2 l2 c2) (.slice a3 l3 c3) (.slice a4 l4 c4)):=oE _ _ _ _ _
 go_enter Tryz.func160,Tryz.ntmps160
 go_wp2_with (go_at_call 161;refine (HLI.out _).mono ?_;rintro e w3 ⟨g,rfl,ok,hg,hgl⟩;have HO3:Hid ((Below w.heap.size w w3∧BxM w3 w.heap.size (.slice a1 l1 c1) (.slice a2 l2 c2) (.slice a3 l3 c3) (.slice a4 l4 c4))∧w3.heap[g]? =some (aW (.slice a1 l1 c1) (.slice a2 l2 c2) (.slice a3 l3 c3) (.slice a4 l4 c4))):=⟨⟨aB (aD _ _) ok,HKB.out _ _ (BxM.new rfl _ _ _ _) ok⟩,hgl⟩;clear ok hg hgl)
 go_loopw [8] (fun i wr=>∃ k:Nat,k≤4∧i= .int .i64 k∧((Below w.heap.size w wr∧BxM wr w.heap.size (.slice a1 l1 c1) (.slice a2 l2 c2) (.slice a3 l3 c3) (.slice a4 l4 c4))∧wr.heap[g]? =some (aW (.slice a1 l1 c1) (.slice a2 l2 c2) (.slice a3 l3 c3) (.slice a4 l4 c4)))∧(1≤k→m1=true)∧(2≤k→m2=true)∧(3≤k→m3=true)∧(4≤k→m4=true)) (fun i _=>4 - (intOf i).toNat)
 case atStart=>exact ⟨0,Nat.zero_le _,rfl,HO3.out,(fun h=>by omega),(fun h=>by omega),(fun h=>by omega),(fun h=>by omega)⟩
 case round=>
  obtain ⟨k,hk,rfl,hb,e1,e2,e3,e4⟩:=hrel;have HB:=aA hb
  rcases (show k=0∨k=1∨k=2∨k=3∨k=4 by omega) with rfl|rfl|rfl|rfl|rfl
  · have q0:wr.cell? ⟨g,0,none⟩=some (.string ⟨#[110,101,101,100,115]⟩):=by rw [Lib.cell_of_heap HB.out.2];rfl
    have q1:wr.cell? ⟨g,1,none⟩=some (.slice a1 l1 c1):=by rw [Lib.cell_of_heap HB.out.2];rfl
    have HBA:Hid ((Below w.heap.size w (wr.alloc (.cells #[.string ⟨#[110,101,101,100,115]⟩,.slice a1 l1 c1] 208))∧BxM (wr.alloc (.cells #[.string ⟨#[110,101,101,100,115]⟩,.slice a1 l1 c1] 208)) w.heap.size (.slice a1 l1 c1) (.slice a2 l2 c2) (.slice a3 l3 c3) (.slice a4 l4 c4))∧(wr.alloc (.cells #[.string ⟨#[110,101,101,100,115]⟩,.slice a1 l1 c1] 208)).heap[g]? =some (aW (.slice a1 l1 c1) (.slice a2 l2 c2) (.slice a3 l3 c3) (.slice a4 l4 c4))):=⟨⟨aB HB.out.1.1 (aD _ _),HKB.out _ _ HB.out.1.2 (aD _ _)⟩,((aD _ _).block g (Array.getElem?_eq_some_iff.1 HB.out.2).1).trans HB.out.2⟩;clear hb e1 e2 e3 e4;cases m1
    · have HR:Hid (SB=false):=by unfold Hid;rw [HSB.out];simp
      go_wp2_with (go_at_call 197;refine (HM1.out _ HBA.out.1.1).mono ?_;rintro e w4 ⟨rfl,ok⟩;have HO4:=aA (aB HBA.out.1.1 ok);clear ok)
      go_ret;exact ⟨aC HR.out.symm,HO4.out⟩
    · go_wp2_with (go_at_call 197;refine (HM1.out _ HBA.out.1.1).mono ?_;rintro e w4 ⟨rfl,ok⟩;have HO4:Hid ((Below w.heap.size w w4∧BxM w4 w.heap.size (.slice a1 l1 c1) (.slice a2 l2 c2) (.slice a3 l3 c3) (.slice a4 l4 c4))∧w4.heap[g]? =some (aW (.slice a1 l1 c1) (.slice a2 l2 c2) (.slice a3 l3 c3) (.slice a4 l4 c4))):=⟨⟨aB HBA.out.1.1 ok,HKB.out _ _ HBA.out.1.2 ok⟩,(ok.block g (Array.getElem?_eq_some_iff.1 HBA.out.2).1).trans HBA.out.2⟩;clear ok)
      exact ⟨⟨1,by omega,rfl,HO4.out,(fun _=>trivial),(fun h=>by omega),(fun h=>by omega),(fun h=>by omega)⟩,by simp [intOf]⟩
  · have e1':=e1 (by omega)
    subst e1';have q0:wr.cell? ⟨g,2,none⟩=some (.string ⟨#[100,101,118]⟩):=by rw [Lib.cell_of_heap HB.out.2];rfl
    have q1:wr.cell? ⟨g,3,none⟩=some (.slice a2 l2 c2):=by rw [Lib.cell_of_heap HB.out.2];rfl
    have HBA:Hid ((Below w.heap.size w (wr.alloc (.cells #[.string ⟨#[100,101,118]⟩,.slice a2 l2 c2] 208))∧BxM (wr.alloc (.cells #[.string ⟨#[100,101,118]⟩,.slice a2 l2 c2] 208)) w.heap.size (.slice a1 l1 c1) (.slice a2 l2 c2) (.slice a3 l3 c3) (.slice a4 l4 c4))∧(wr.alloc (.cells #[.string ⟨#[100,101,118]⟩,.slice a2 l2 c2] 208)).heap[g]? =some (aW (.slice a1 l1 c1) (.slice a2 l2 c2) (.slice a3 l3 c3) (.slice a4 l4 c4))):=⟨⟨aB HB.out.1.1 (aD _ _),HKB.out _ _ HB.out.1.2 (aD _ _)⟩,((aD _ _).block g (Array.getElem?_eq_some_iff.1 HB.out.2).1).trans HB.out.2⟩;clear hb e1 e2 e3 e4;cases m2
    · have HR:Hid (SB=false):=by unfold Hid;rw [HSB.out];simp
      go_wp2_with (go_at_call 197;refine (HM2.out _ HBA.out.1.1).mono ?_;rintro e w4 ⟨rfl,ok⟩;have HO4:=aA (aB HBA.out.1.1 ok);clear ok)
      go_ret;exact ⟨aC HR.out.symm,HO4.out⟩
    · go_wp2_with (go_at_call 197;refine (HM2.out _ HBA.out.1.1).mono ?_;rintro e w4 ⟨rfl,ok⟩;have HO4:Hid ((Below w.heap.size w w4∧BxM w4 w.heap.size (.slice a1 l1 c1) (.slice a2 l2 c2) (.slice a3 l3 c3) (.slice a4 l4 c4))∧w4.heap[g]? =some (aW (.slice a1 l1 c1) (.slice a2 l2 c2) (.slice a3 l3 c3) (.slice a4 l4 c4))):=⟨⟨aB HBA.out.1.1 ok,HKB.out _ _ HBA.out.1.2 ok⟩,(ok.block g (Array.getElem?_eq_some_iff.1 HBA.out.2).1).trans HBA.out.2⟩;clear ok)
      exact ⟨⟨2,by omega,rfl,HO4.out,(fun _=>trivial),(fun _=>trivial),(fun h=>by omega),(fun h=>by omega)⟩,by simp [intOf]⟩
  · have e1':=e1 (by omega)
    have e2':=e2 (by omega);subst e1' e2';have q0:wr.cell? ⟨g,4,none⟩=some (.string ⟨#[108,105,107,101,115]⟩):=by rw [Lib.cell_of_heap HB.out.2];rfl
    have q1:wr.cell? ⟨g,5,none⟩=some (.slice a3 l3 c3):=by rw [Lib.cell_of_heap HB.out.2];rfl
    have HBA:Hid ((Below w.heap.size w (wr.alloc (.cells #[.string ⟨#[108,105,107,101,115]⟩,.slice a3 l3 c3] 208))∧BxM (wr.alloc (.cells #[.string ⟨#[108,105,107,101,115]⟩,.slice a3 l3 c3] 208)) w.heap.size (.slice a1 l1 c1) (.slice a2 l2 c2) (.slice a3 l3 c3) (.slice a4 l4 c4))∧(wr.alloc (.cells #[.string ⟨#[108,105,107,101,115]⟩,.slice a3 l3 c3] 208)).heap[g]? =some (aW (.slice a1 l1 c1) (.slice a2 l2 c2) (.slice a3 l3 c3) (.slice a4 l4 c4))):=⟨⟨aB HB.out.1.1 (aD _ _),HKB.out _ _ HB.out.1.2 (aD _ _)⟩,((aD _ _).block g (Array.getElem?_eq_some_iff.1 HB.out.2).1).trans HB.out.2⟩;clear hb e1 e2 e3 e4;cases m3
    · have HR:Hid (SB=false):=by unfold Hid;rw [HSB.out];simp
      go_wp2_with (go_at_call 197;refine (HM3.out _ HBA.out.1.1).mono ?_;rintro e w4 ⟨rfl,ok⟩;have HO4:=aA (aB HBA.out.1.1 ok);clear ok)
      go_ret;exact ⟨aC HR.out.symm,HO4.out⟩
    · go_wp2_with (go_at_call 197;refine (HM3.out _ HBA.out.1.1).mono ?_;rintro e w4 ⟨rfl,ok⟩;have HO4:Hid ((Below w.heap.size w w4∧BxM w4 w.heap.size (.slice a1 l1 c1) (.slice a2 l2 c2) (.slice a3 l3 c3) (.slice a4 l4 c4))∧w4.heap[g]? =some (aW (.slice a1 l1 c1) (.slice a2 l2 c2) (.slice a3 l3 c3) (.slice a4 l4 c4))):=⟨⟨aB HBA.out.1.1 ok,HKB.out _ _ HBA.out.1.2 ok⟩,(ok.block g (Array.getElem?_eq_some_iff.1 HBA.out.2).1).trans HBA.out.2⟩;clear ok)
      exact ⟨⟨3,by omega,rfl,HO4.out,(fun _=>trivial),(fun _=>trivial),(fun _=>trivial),(fun h=>by omega)⟩,by simp [intOf]⟩
  · have e1':=e1 (by omega)
    have e2':=e2 (by omega);have e3':=e3 (by omega);subst e1' e2' e3';have q0:wr.cell? ⟨g,6,none⟩=some (.string ⟨#[112,105,110,115]⟩):=by rw [Lib.cell_of_heap HB.out.2];rfl
    have q1:wr.cell? ⟨g,7,none⟩=some (.slice a4 l4 c4):=by rw [Lib.cell_of_heap HB.out.2];rfl
    have HBA:Hid ((Below w.heap.size w (wr.alloc (.cells #[.string ⟨#[112,105,110,115]⟩,.slice a4 l4 c4] 208))∧BxM (wr.alloc (.cells #[.string ⟨#[112,105,110,115]⟩,.slice a4 l4 c4] 208)) w.heap.size (.slice a1 l1 c1) (.slice a2 l2 c2) (.slice a3 l3 c3) (.slice a4 l4 c4))∧(wr.alloc (.cells #[.string ⟨#[112,105,110,115]⟩,.slice a4 l4 c4] 208)).heap[g]? =some (aW (.slice a1 l1 c1) (.slice a2 l2 c2) (.slice a3 l3 c3) (.slice a4 l4 c4))):=⟨⟨aB HB.out.1.1 (aD _ _),HKB.out _ _ HB.out.1.2 (aD _ _)⟩,((aD _ _).block g (Array.getElem?_eq_some_iff.1 HB.out.2).1).trans HB.out.2⟩;clear hb e1 e2 e3 e4;cases m4
    · have HR:Hid (SB=false):=by unfold Hid;rw [HSB.out];simp
      go_wp2_with (go_at_call 197;refine (HM4.out _ HBA.out.1.1).mono ?_;rintro e w4 ⟨rfl,ok⟩;have HO4:=aA (aB HBA.out.1.1 ok);clear ok)
      go_ret;exact ⟨aC HR.out.symm,HO4.out⟩
    · go_wp2_with (go_at_call 197;refine (HM4.out _ HBA.out.1.1).mono ?_;rintro e w4 ⟨rfl,ok⟩;have HO4:Hid ((Below w.heap.size w w4∧BxM w4 w.heap.size (.slice a1 l1 c1) (.slice a2 l2 c2) (.slice a3 l3 c3) (.slice a4 l4 c4))∧w4.heap[g]? =some (aW (.slice a1 l1 c1) (.slice a2 l2 c2) (.slice a3 l3 c3) (.slice a4 l4 c4))):=⟨⟨aB HBA.out.1.1 ok,HKB.out _ _ HBA.out.1.2 ok⟩,(ok.block g (Array.getElem?_eq_some_iff.1 HBA.out.2).1).trans HBA.out.2⟩;clear ok)
      exact ⟨⟨4,by omega,rfl,HO4.out,(fun _=>trivial),(fun _=>trivial),(fun _=>trivial),(fun _=>trivial)⟩,by simp [intOf]⟩
  · have e1':=e1 (by omega)
    have e2':=e2 (by omega);have e3':=e3 (by omega);have e4':=e4 (by omega);subst e1' e2' e3' e4';have HR:Hid (SB=ob):=by unfold Hid;rw [HSB.out];simp
    have HEW:=aA (HEO.out rfl rfl rfl);obtain ⟨k0,k1,k2,k3,k4⟩:=HB.out.1.2;clear hb e1 e2 e3 e4
    go_wp2_with (go_at_call 198;refine (HEW.out _ HB.out.1.1).mono ?_;rintro e w4 ⟨rfl,ok⟩;have HO4:=aA (aB (aB HB.out.1.1 (aD _ _)) ok);clear ok)
    go_ret;exact ⟨aC HR.out.symm,HO4.out⟩
def mwK:Nat→ByteArray
 |0=>⟨#[110,101,101,100,115]⟩
 |1=>⟨#[100,101,118]⟩
 |2=>⟨#[108,105,107,101,115]⟩
 |_=>⟨#[112,105,110,115]⟩
theorem jJ (k:Nat):(mwK k).size≤16:=by
 match k with
 |0|1|2=>decide
 |_+3=>show (⟨#[112,105,110,115]⟩:ByteArray).size≤16;decide
def cV (P:Mn):Nat→Sc.Bs
 |0=>[112,114,111,106,101,99,116,10]
 |1=>[112,114,111,106,101,99,116,10]++aX (mwK 0) P.d
 |2=>[112,114,111,106,101,99,116,10]++aX (mwK 0) P.d++aX (mwK 1) P.v
 |3=>[112,114,111,106,101,99,116,10]++aX (mwK 0) P.d++aX (mwK 1) P.v++aX (mwK 2) P.o
 |_=>[112,114,111,106,101,99,116,10]++aX (mwK 0) P.d++aX (mwK 1) P.v++aX (mwK 2) P.o++aX (mwK 3) P.p
def iJ (P:Mn):Sc.Bs:=cV P 4
noncomputable def aM (P:Mn):Bool:=dO P&&decide ((iJ P).length≤4096)
noncomputable def bM (P:Mn):ByteArray:=if aM P=true then ⟨(iJ P).toArray⟩ else ⟨#[]⟩
set_option maxHeartbeats 6400000 in
theorem gQ {P:Mn} {v1 v2 v3 v4:Value} {w:World} (h:MnAt w P v1 v2 v3 v4) (he:Env w) (hf:FL w) (hsd:dO P=true):
 Calls Tryz.prog 106 #[.agg #[v1,v2,v3,v4]] w fun e w'=>e= .returned (.tuple #[.string (bM P),.bool (aM P)])∧Below w.heap.size w w':=by
 have HSO:Hid (∀ w1,Below w.heap.size w w1→Calls Tryz.prog 160 #[.agg #[v1,v2,v3,v4]] w1 fun e w'=>e= .returned (.bool true)∧Below w1.heap.size w1 w'):=fun w1 hb=>by have:=lL (h.below hb);rw [hsd] at this;exact this
 have hs:=hsd;unfold dO at hs;simp only [Bool.and_eq_true] at hs;obtain ⟨⟨hd,hv,ho,hp⟩,_⟩:=hs;have HPG:Hid (∀ w1,Below w.heap.size w w1→MnAt w1 P v1 v2 v3 v4):=fun w1 hb=>h.below hb
 have HMD:Hid (bB P.d=true∧bB P.v=true∧bB P.o=true∧bB P.p=true):=⟨hd,hv,ho,hp⟩;have HF0:=aA (eL (jJ 0) hd P.d.length);have HF1:=aA (eL (jJ 1) hv P.v.length);have HF2:=aA (eL (jJ 2) ho P.o.length);rw [List.take_length] at HF0 HF1 HF2;have HWB:Hid (aM P=decide ((iJ P).length≤4096)):=by unfold Hid aM;rw [hsd];rfl
 have HPT:Hid (cV P 4=iJ P):=rfl;obtain ⟨a1,c1,rfl⟩:=h.1.sl;obtain ⟨a2,c2,rfl⟩:=h.2.1.sl;obtain ⟨a3,c3,rfl⟩:=h.2.2.1.sl;obtain ⟨a4,c4,rfl⟩:=h.2.2.2.sl;have HLI:Hid (∀ w1,Calls Tryz.prog 161 #[.agg #[.slice a1 P.d.length c1,.slice a2 P.v.length c2,.slice a3 P.o.length c3,.slice a4 P.p.length c4]] w1 fun e w'=>∃ g,e= .returned (.slice (some ⟨g,0,none⟩) 4 4)∧Below w1.heap.size w1 w'∧w1.heap.size≤g∧w'.heap[g]? =some (aW (.slice a1 P.d.length c1) (.slice a2 P.v.length c2) (.slice a3 P.o.length c3) (.slice a4 P.p.length c4))):=fun w1=>lK _ _ _ _ _ _ _ _ _ _ _ _ w1
 have HLE:Hid (∀ w1 l w',TW w1 l w'→Calls Tryz.prog 136 #[.pointer (some ⟨w1.heap.size,0,none⟩)] w' fun e w2=>e= .returned (.int .i64 l.length)∧w2=w'):=fun w1 l w' h=>uD h.1
 have HST:Hid (∀ w1 l w',TW w1 l w'→Calls Tryz.prog 137 #[.pointer (some ⟨w1.heap.size,0,none⟩)] w' fun e w2=>e= .returned (.string ⟨l.toArray⟩)∧Below w1.heap.size w' w2):=fun w1 l w' h=>Tryz.Builder_String_any _ _ l w' h.1 h.2.size
 have HWR:Hid (∀ w1,Below w.heap.size w w1→∀ (l:Sc.Bs) wz (x:ByteArray) v L,TW w1 l wz→DepsAt w1 v L→bB L=true→x.size≤16→l.length≤1000000→Calls Tryz.prog 135 #[.pointer (some ⟨w1.heap.size,0,none⟩),.string x,v] wz fun e w'=>e= .returned (.tuple #[])∧TW w1 (l++aX x L) w'∧FarB w1.heap.size wz w'):=fun w1 hb l wz x v L h1 h2 h3 h4 h5=>pL h1 h2 h3 (he.below hb) (hf.below hb) h4 h5
 have HPU:Hid (∀ w1 (l:Sc.Bs) wz (s:ByteArray),TW w1 l wz→l.length≤1000000→s.size≤1000000→Calls Tryz.prog 131 #[.pointer (some ⟨w1.heap.size,0,none⟩),.string s] wz fun e w'=>e= .returned (.tuple #[.int .i64 s.size,.nilIface])∧TW w1 (l++s.data.toList) w'∧FarB w1.heap.size wz w'):=fun w1 l wz s h1 h2 h3=>h1.put s (by omega) h3
 clear h he hf hsd hd hv ho hp;have HBX:Hid (BxM (w.alloc (.cells #[.slice a1 P.d.length c1,.slice a2 P.v.length c2,.slice a3 P.o.length c3,.slice a4 P.p.length c4] 57)) w.heap.size (.slice a1 P.d.length c1) (.slice a2 P.v.length c2) (.slice a3 P.o.length c3) (.slice a4 P.p.length c4)):=BxM.new rfl _ _ _ _;have HKB:Hid (KeepP fun w1=>BxM w1 w.heap.size (.slice a1 P.d.length c1) (.slice a2 P.v.length c2) (.slice a3 P.o.length c3) (.slice a4 P.p.length c4)):=oE _ _ _ _ _
 go_enter Tryz.func106,Tryz.ntmps106
 go_wp2_with (first
  |(go_at_call 160;refine (HSO.out _ (aD _ _)).mono ?_;rintro e w1 ⟨rfl,ok⟩;have HO1:Hid (Below w.heap.size w w1∧BxM w1 w.heap.size (.slice a1 P.d.length c1) (.slice a2 P.v.length c2) (.slice a3 P.o.length c3) (.slice a4 P.p.length c4)):=⟨aB (aD _ _) ok,HKB.out _ _ HBX.out ok⟩;have HT0:Hid (TW w1 [] (w1.alloc (.cells #[.pointer none,.slice none 0 0] 173))):=TW.new w1;clear ok HBX)
  |(go_at_call 131;refine (HPU.out w1 [] _ ⟨#[112,114,111,106,101,99,116,10]⟩ HT0.out (by decide) (by decide)).mono ?_;rintro e w3 ⟨rfl,ok,_⟩;have HT3:Hid (TW w1 (cV P 0) w3):=ok;have HX3:=aA (HKB.out _ _ HO1.out.2 HT3.out.2);obtain ⟨k0,k1,k2,k3,k4⟩:=HX3.out;clear ok)
  |(go_at_call 161;refine (HLI.out _).mono ?_;rintro e w4 ⟨g,rfl,ok,hg,hgl⟩;have HT4:Hid (TW w1 (cV P 0) w4∧w4.heap[g]? =some (aW (.slice a1 P.d.length c1) (.slice a2 P.v.length c2) (.slice a3 P.o.length c3) (.slice a4 P.p.length c4))∧w1.heap.size<g):=⟨eC _ _ _ _ HT3.out ok,hgl,by have:=HT3.out.far;omega⟩;clear ok hg hgl k0 k1 k2 k3 k4))
 go_loopw [14] (fun i wr=>∃ k:Nat,k≤4∧i= .int .i64 k∧TW w1 (cV P k) wr∧wr.heap[g]? =some (aW (.slice a1 P.d.length c1) (.slice a2 P.v.length c2) (.slice a3 P.o.length c3) (.slice a4 P.p.length c4))∧w1.heap.size<g) (fun i _=>4 - (intOf i).toNat)
 case atStart=>exact ⟨0,Nat.zero_le _,rfl,HT4.out⟩
 case round=>
  clear HT4;obtain ⟨k,hk,rfl,htw⟩:=hrel
  rcases (show k=0∨k=1∨k=2∨k=3∨k=4 by omega) with rfl|rfl|rfl|rfl|rfl
  · have HTK:=aA htw
    clear htw;have q0:wr.cell? ⟨g,0,none⟩=some (.string ⟨#[110,101,101,100,115]⟩):=by rw [Lib.cell_of_heap HTK.out.2.1];rfl
    have q1:wr.cell? ⟨g,1,none⟩=some (.slice a1 P.d.length c1):=by rw [Lib.cell_of_heap HTK.out.2.1];rfl
    have hpl:(cV P 0).length≤1000000:=by
     have h2:=HF0.out;have h3:=HF1.out;have h4:=HF2.out;show 8≤1000000;decide
    have HTA:Hid (TW w1 (cV P 0) (wr.alloc (.cells #[.string ⟨#[110,101,101,100,115]⟩,.slice a1 P.d.length c1] 208))∧(wr.alloc (.cells #[.string ⟨#[110,101,101,100,115]⟩,.slice a1 P.d.length c1] 208)).heap[g]? =some (aW (.slice a1 P.d.length c1) (.slice a2 P.v.length c2) (.slice a3 P.o.length c3) (.slice a4 P.p.length c4))∧w1.heap.size<g):=⟨eC _ _ _ _ HTK.out.1 (aD _ _),((aD _ _).block g (Array.getElem?_eq_some_iff.1 HTK.out.2.1).1).trans HTK.out.2.1,HTK.out.2.2⟩
    go_wp2_with (go_at_call 135;refine (HWR.out w1 HO1.out.1 _ _ ⟨#[110,101,101,100,115]⟩ _ P.d HTA.out.1 (HPG.out w1 HO1.out.1).1 HMD.out.1 (by decide) hpl).mono ?_;rintro e w5 ⟨rfl,ok,far⟩;have HT5:Hid (TW w1 (cV P (0+1)) w5∧w5.heap[g]? =some (aW (.slice a1 P.d.length c1) (.slice a2 P.v.length c2) (.slice a3 P.o.length c3) (.slice a4 P.p.length c4))∧w1.heap.size<g):=⟨ok,far _ _ _ _ HTA.out.2.1 (by decide) (by have:=HTA.out.2.2;omega),HTA.out.2.2⟩;clear ok far)
    exact ⟨⟨0+1,by omega,rfl,HT5.out⟩,by simp [intOf]⟩
  · have HTK:=aA htw
    clear htw;have q0:wr.cell? ⟨g,2,none⟩=some (.string ⟨#[100,101,118]⟩):=by rw [Lib.cell_of_heap HTK.out.2.1];rfl
    have q1:wr.cell? ⟨g,3,none⟩=some (.slice a2 P.v.length c2):=by rw [Lib.cell_of_heap HTK.out.2.1];rfl
    have hpl:(cV P 1).length≤1000000:=by
     have h2:=HF0.out;have h3:=HF1.out;have h4:=HF2.out;simp only [cV,List.length_append,List.length_cons,List.length_nil] at*;omega
    have HTA:Hid (TW w1 (cV P 1) (wr.alloc (.cells #[.string ⟨#[100,101,118]⟩,.slice a2 P.v.length c2] 208))∧(wr.alloc (.cells #[.string ⟨#[100,101,118]⟩,.slice a2 P.v.length c2] 208)).heap[g]? =some (aW (.slice a1 P.d.length c1) (.slice a2 P.v.length c2) (.slice a3 P.o.length c3) (.slice a4 P.p.length c4))∧w1.heap.size<g):=⟨eC _ _ _ _ HTK.out.1 (aD _ _),((aD _ _).block g (Array.getElem?_eq_some_iff.1 HTK.out.2.1).1).trans HTK.out.2.1,HTK.out.2.2⟩
    go_wp2_with (go_at_call 135;refine (HWR.out w1 HO1.out.1 _ _ ⟨#[100,101,118]⟩ _ P.v HTA.out.1 (HPG.out w1 HO1.out.1).2.1 HMD.out.2.1 (by decide) hpl).mono ?_;rintro e w5 ⟨rfl,ok,far⟩;have HT5:Hid (TW w1 (cV P (1+1)) w5∧w5.heap[g]? =some (aW (.slice a1 P.d.length c1) (.slice a2 P.v.length c2) (.slice a3 P.o.length c3) (.slice a4 P.p.length c4))∧w1.heap.size<g):=⟨ok,far _ _ _ _ HTA.out.2.1 (by decide) (by have:=HTA.out.2.2;omega),HTA.out.2.2⟩;clear ok far)
    exact ⟨⟨1+1,by omega,rfl,HT5.out⟩,by simp [intOf]⟩
  · have HTK:=aA htw
    clear htw;have q0:wr.cell? ⟨g,4,none⟩=some (.string ⟨#[108,105,107,101,115]⟩):=by rw [Lib.cell_of_heap HTK.out.2.1];rfl
    have q1:wr.cell? ⟨g,5,none⟩=some (.slice a3 P.o.length c3):=by rw [Lib.cell_of_heap HTK.out.2.1];rfl
    have hpl:(cV P 2).length≤1000000:=by
     have h2:=HF0.out;have h3:=HF1.out;have h4:=HF2.out;simp only [cV,List.length_append,List.length_cons,List.length_nil] at*;omega
    have HTA:Hid (TW w1 (cV P 2) (wr.alloc (.cells #[.string ⟨#[108,105,107,101,115]⟩,.slice a3 P.o.length c3] 208))∧(wr.alloc (.cells #[.string ⟨#[108,105,107,101,115]⟩,.slice a3 P.o.length c3] 208)).heap[g]? =some (aW (.slice a1 P.d.length c1) (.slice a2 P.v.length c2) (.slice a3 P.o.length c3) (.slice a4 P.p.length c4))∧w1.heap.size<g):=⟨eC _ _ _ _ HTK.out.1 (aD _ _),((aD _ _).block g (Array.getElem?_eq_some_iff.1 HTK.out.2.1).1).trans HTK.out.2.1,HTK.out.2.2⟩
    go_wp2_with (go_at_call 135;refine (HWR.out w1 HO1.out.1 _ _ ⟨#[108,105,107,101,115]⟩ _ P.o HTA.out.1 (HPG.out w1 HO1.out.1).2.2.1 HMD.out.2.2.1 (by decide) hpl).mono ?_;rintro e w5 ⟨rfl,ok,far⟩;have HT5:Hid (TW w1 (cV P (2+1)) w5∧w5.heap[g]? =some (aW (.slice a1 P.d.length c1) (.slice a2 P.v.length c2) (.slice a3 P.o.length c3) (.slice a4 P.p.length c4))∧w1.heap.size<g):=⟨ok,far _ _ _ _ HTA.out.2.1 (by decide) (by have:=HTA.out.2.2;omega),HTA.out.2.2⟩;clear ok far)
    exact ⟨⟨2+1,by omega,rfl,HT5.out⟩,by simp [intOf]⟩
  · have HTK:=aA htw
    clear htw;have q0:wr.cell? ⟨g,6,none⟩=some (.string ⟨#[112,105,110,115]⟩):=by rw [Lib.cell_of_heap HTK.out.2.1];rfl
    have q1:wr.cell? ⟨g,7,none⟩=some (.slice a4 P.p.length c4):=by rw [Lib.cell_of_heap HTK.out.2.1];rfl
    have hpl:(cV P 3).length≤1000000:=by
     have h2:=HF0.out;have h3:=HF1.out;have h4:=HF2.out;simp only [cV,List.length_append,List.length_cons,List.length_nil] at*;omega
    have HTA:Hid (TW w1 (cV P 3) (wr.alloc (.cells #[.string ⟨#[112,105,110,115]⟩,.slice a4 P.p.length c4] 208))∧(wr.alloc (.cells #[.string ⟨#[112,105,110,115]⟩,.slice a4 P.p.length c4] 208)).heap[g]? =some (aW (.slice a1 P.d.length c1) (.slice a2 P.v.length c2) (.slice a3 P.o.length c3) (.slice a4 P.p.length c4))∧w1.heap.size<g):=⟨eC _ _ _ _ HTK.out.1 (aD _ _),((aD _ _).block g (Array.getElem?_eq_some_iff.1 HTK.out.2.1).1).trans HTK.out.2.1,HTK.out.2.2⟩
    go_wp2_with (go_at_call 135;refine (HWR.out w1 HO1.out.1 _ _ ⟨#[112,105,110,115]⟩ _ P.p HTA.out.1 (HPG.out w1 HO1.out.1).2.2.2 HMD.out.2.2.2 (by decide) hpl).mono ?_;rintro e w5 ⟨rfl,ok,far⟩;have HT5:Hid (TW w1 (cV P (3+1)) w5∧w5.heap[g]? =some (aW (.slice a1 P.d.length c1) (.slice a2 P.v.length c2) (.slice a3 P.o.length c3) (.slice a4 P.p.length c4))∧w1.heap.size<g):=⟨ok,far _ _ _ _ HTA.out.2.1 (by decide) (by have:=HTA.out.2.2;omega),HTA.out.2.2⟩;clear ok far)
    exact ⟨⟨3+1,by omega,rfl,HT5.out⟩,by simp [intOf]⟩
  · have HTE:=aA htw.1
    rw [HPT.out] at HTE;clear htw
    by_cases hlen:(iJ P).length≤4096
    · have HR:Hid (aM P=true∧bM P=⟨(iJ P).toArray⟩):=by
       have:aM P=true:=by rw [HWB.out];exact decide_eq_true hlen
       exact ⟨this,by unfold bM;rw [if_pos this]⟩
      go_wp2_with (first
       |(go_at_call 136;refine (HLE.out _ _ _ HTE.out).mono ?_;rintro e w5 ⟨rfl,rfl⟩)
       |(go_at_call 137;refine (HST.out _ _ _ HTE.out).mono ?_;rintro e w6 ⟨rfl,ok⟩;have HB6:=aA (aB HO1.out.1 (HTE.out.2.trans ok));clear ok))
      go_ret2;exact ⟨by rw [HR.out.1,HR.out.2];rfl,HB6.out⟩
    · have HR:Hid (aM P=false∧bM P=⟨#[]⟩):=by
       have:aM P=false:=by rw [HWB.out];exact decide_eq_false hlen
       exact ⟨this,by unfold bM;rw [if_neg (by rw [this];simp)]⟩
      go_wp2_with (go_at_call 136;refine (HLE.out _ _ _ HTE.out).mono ?_;rintro e w5 ⟨rfl,rfl⟩)
      go_ret2;exact ⟨by rw [HR.out.1,HR.out.2];rfl,aB HO1.out.1 HTE.out.2⟩
theorem jK {P:Mn} {v1 v2 v3 v4:Value} {w:World} (h:MnAt w P v1 v2 v3 v4) (he:Env w) (hf:FL w):
 Calls Tryz.prog 106 #[.agg #[v1,v2,v3,v4]] w fun e w'=>e= .returned (.tuple #[.string (bM P),.bool (aM P)])∧Below w.heap.size w w':=by
 cases hsd:dO P
 · have HSO:Hid (∀ w1,Below w.heap.size w w1→Calls Tryz.prog 160 #[.agg #[v1,v2,v3,v4]] w1 fun e w'=>e= .returned (.bool false)∧Below w1.heap.size w1 w'):=fun w1 hb=>by have:=lL (h.below hb);rw [hsd] at this;exact this
   have HR:Hid (aM P=false∧bM P=⟨#[]⟩):=by
    have:aM P=false:=by unfold aM;rw [hsd];rfl
    exact ⟨this,by unfold bM;rw [if_neg (by rw [this];simp)]⟩
   obtain ⟨a1,c1,rfl⟩:=h.1.sl;obtain ⟨a2,c2,rfl⟩:=h.2.1.sl;obtain ⟨a3,c3,rfl⟩:=h.2.2.1.sl;obtain ⟨a4,c4,rfl⟩:=h.2.2.2.sl;clear h he hf hsd
   go_enter Tryz.func106,Tryz.ntmps106
   go_wp2_with (go_at_call 160;refine (HSO.out _ (aD _ _)).mono ?_;rintro e w1 ⟨rfl,ok⟩;have HO1:=aA (aB (aD _ _) ok);clear ok)
   go_ret2;exact ⟨by rw [HR.out.1,HR.out.2];rfl,HO1.out⟩
 · exact gQ h he hf hsd
theorem lM {P:Mn} {v1 v2 v3 v4:Value} {w:World} (h:MnAt w P v1 v2 v3 v4) (he:Env w) (hf:FL w):
 Calls Tryz.prog 58 #[.agg #[v1,v2,v3,v4]] w fun e w'=>e= .returned (.bool (aM P))∧Below w.heap.size w w':=by
 have HW:Hid (∀ w1,Below w.heap.size w w1→Calls Tryz.prog 106 #[.agg #[v1,v2,v3,v4]] w1 fun e w'=>e= .returned (.tuple #[.string (bM P),.bool (aM P)])∧Below w1.heap.size w1 w'):=fun w1 hb=>jK (h.below hb) (he.below hb) (hf.below hb)
 obtain ⟨a1,c1,rfl⟩:=h.1.sl;obtain ⟨a2,c2,rfl⟩:=h.2.1.sl;obtain ⟨a3,c3,rfl⟩:=h.2.2.1.sl;obtain ⟨a4,c4,rfl⟩:=h.2.2.2.sl;clear h he hf
 go_enter Tryz.func58,Tryz.ntmps58
 go_wp2_with (go_at_call 106;refine (HW.out _ (aD _ _)).mono ?_;rintro e w1 ⟨rfl,ok⟩;have HO1:=aA (aB (aD _ _) ok);clear ok)
 go_ret;exact ⟨rfl,HO1.out⟩
end Go.Proofs.YtbhpfedjilkelaaGreatDoor
namespace Go.Proofs.YtbhpfedjilkelaaGreatDoor
open Go.Shelf Go.RowKit Go.Maps Go.WideMaps
set_option maxRecDepth 100000
def nd0:Nd:=ndB ⟨#[]⟩ 0 0 0
def nd1:Nd:=ndB ⟨#[97]⟩ 0 0 0
theorem uR:Lo.eX [nd0]=true:=by decide
theorem uS:Lo.eX [nd0,nd1]=true:=by decide
theorem uT:iT [nd0]=true:=by rfl
theorem uU:iT [nd0,nd1]=true:=by rfl
theorem uV:(eU [nd0]).length=1:=by decide
theorem uW:(eU [nd0,nd1]).length=1:=by decide
theorem uX:dC [] [nd0]=false:=by rfl
theorem uY:dC [] [nd0,nd1]=false:=by
 have h:bZ nd0 nd1=false:=by
  unfold bZ
  have e:cE (bU nd0) (bU nd1)=false:=by
   rw [Bool.eq_false_iff];intro e;have q:=congrArg Pn.nm (cQ.1 e);unfold bU nd0 nd1 ndB at q
   simp at q
  rw [e];rfl
 unfold dC dC;simp [h,dC]
theorem sY:aM ⟨[],[],[],[]⟩=true:=by
 unfold aM dO;rw [Bool.and_eq_true];refine ⟨?_,decide_eq_true ?_⟩
 · rw [kM (by simp [cL])]
   rfl
 · decide
theorem jL:GrB [nd0]:=⟨⟨by decide,by decide⟩,fun n hn=>by rw [List.mem_singleton.1 hn];exact ⟨by decide,by decide⟩⟩
theorem sZ:GrB [nd0,nd1]:=⟨⟨by decide,by decide⟩,fun n hn=>by
 rcases List.mem_cons.1 hn with rfl|hn
 · exact ⟨by decide,by decide⟩
 · rw [List.mem_singleton.1 hn];exact ⟨by decide,by decide⟩⟩
def KC (w:World) (v:Value) (W:World):Prop:=Below w.heap.size w W∧BxG W w.heap.size v∧(W.cell? ⟨w.heap.size+1,0,none⟩=some (.slice none 0 0)∧W.cell? ⟨w.heap.size+1,1,none⟩=some (.slice none 0 0)∧W.cell? ⟨w.heap.size+1,2,none⟩=some (.slice none 0 0)∧W.cell? ⟨w.heap.size+1,3,none⟩=some (.slice none 0 0))∧w.heap.size+1<W.heap.size
theorem tA (w:World) (v:Value):KeepP (KC w v):=fun _ _ ⟨h1,h2,⟨h3,h4,h5,h6⟩,h7⟩ hb=>
 ⟨aB h1 hb,aS _ _ _ _ h2 hb,⟨(hb.cell (p:=⟨w.heap.size+1,0,none⟩) h7).trans h3,(hb.cell (p:=⟨w.heap.size+1,1,none⟩) h7).trans h4,(hb.cell (p:=⟨w.heap.size+1,2,none⟩) h7).trans h5,(hb.cell (p:=⟨w.heap.size+1,3,none⟩) h7).trans h6⟩,Nat.lt_of_lt_of_le h7 hb.size⟩
theorem KC.new (w:World) (v:Value):KC w v ((w.alloc (.cells #[v] 55)).alloc (.cells #[.slice none 0 0,.slice none 0 0,.slice none 0 0,.slice none 0 0] 57)):=
 ⟨aT _ _ _,aS _ _ _ _ (BxG.new rfl _) (aD _ _),⟨by simp,by simp,by simp,by simp⟩,by simp⟩
set_option maxHeartbeats 1600000 in
theorem qJ {ad:Option Addr} {n cap:Nat} {w:World}:
 Calls Tryz.prog 26 #[.agg #[.slice ad n cap],.pointer none,.agg #[.slice none 0 0,.slice none 0 0,.slice none 0 0,.slice none 0 0],.bool true] w fun e w'=>e= .returned (.int .i64 1)∧Below w.heap.size w w':=by
 have HK:=aA (KC.new w (.slice ad n cap))
 go_enter Tryz.func26,Tryz.ntmps26
 go_wp2
 go_ret;exact ⟨rfl,HK.out.1⟩
set_option maxHeartbeats 6400000 in
theorem nJ {G:List Nd} {g o cap:Nat} {p:Addr} {w:World} (hG:NodesAt w (.slice (some ⟨g,o,none⟩) G.length cap) G) (he:Env w) (hf:FL w) (hm:Lo.eX G=true) (hlb:iT G=true) (htw:dC [] G=false) (hB:GrB G) (hin:InG G) (hr:(eU G).length<G.length):
 Calls Tryz.prog 26 #[.agg #[.slice (some ⟨g,o,none⟩) G.length cap],.pointer (some p),.agg #[.slice none 0 0,.slice none 0 0,.slice none 0 0,.slice none 0 0],.bool true] w fun e w'=>e= .returned (.int .i64 33)∧Below w.heap.size w w':=by
 have HKN:=aA (KC.new w (.slice (some ⟨g,o,none⟩) G.length cap));have hz:G.length≤9223372036854775807:=by have:=hB.1.1;omega
 have HMF:Hid (∀ w1,Below w.heap.size w w1→Calls Tryz.prog 58 #[.agg #[.slice none 0 0,.slice none 0 0,.slice none 0 0,.slice none 0 0]] w1 fun e w'=>e= .returned (.bool true)∧Below w1.heap.size w1 w'):=fun w1 hb=>by
  have q:=lM (P:=⟨[],[],[],[]⟩) (w:=w1) ⟨bP w1,bP w1,bP w1,bP w1⟩ (he.below hb) (hf.below hb);rw [sY] at q;exact q
 have HLM:Hid (∀ w1,Below w.heap.size w w1→Calls Tryz.prog 59 #[.agg #[.slice (some ⟨g,o,none⟩) G.length cap]] w1 fun e w'=>e= .returned (.bool true)∧Below w1.heap.size w1 w'):=fun w1 hb=>by
  have q:=Lo.lJ (hG.below hb);rw [hm] at q;exact q
 have HLB:Hid (∀ w1,Below w.heap.size w w1→Calls Tryz.prog 60 #[.agg #[.slice (some ⟨g,o,none⟩) G.length cap]] w1 fun e w'=>e= .returned (.bool true)∧Below w1.heap.size w1 w'):=fun w1 hb=>by
  have q:=eH (hG.below hb) hz hB.2 hin;rw [hlb] at q;exact q
 have HTW:Hid (∀ w1,Below w.heap.size w w1→Calls Tryz.prog 61 #[.slice (some ⟨g,o,none⟩) G.length cap] w1 fun e w'=>e= .returned (.bool false)∧Below w1.heap.size w1 w'):=fun w1 hb=>by
  have q:=hI (hG.below hb) hz hB.2;rw [htw] at q;exact q
 have HRC:Hid (∀ w1,Below w.heap.size w w1→Calls Tryz.prog 32 #[.agg #[.slice (some ⟨g,o,none⟩) G.length cap]] w1 fun e w'=>∃ ad c,e= .returned (.slice ad (eU G).length c)∧Below w1.heap.size w1 w'):=fun w1 hb=>by
  refine (hR (hG.below hb) hB).mono ?_;rintro e w' ⟨ad,c,rfl,_,h⟩;exact ⟨ad,c,rfl,h⟩
 have HKP:=aA (tA w (.slice (some ⟨g,o,none⟩) G.length cap));have HKW:Hid (∀ W,KC w (.slice (some ⟨g,o,none⟩) G.length cap) W→W.cell? ⟨w.heap.size,0,none⟩=some (.slice (some ⟨g,o,none⟩) G.length cap)):=fun W h=>h.2.1.1
 clear hG he hf hm hlb htw hB hin;generalize hrl:(eU G).length=rl at*;have hrl2:(rl:Int)<(G.length:Int):=by omega
 obtain ⟨_,⟨y0,_⟩,⟨z0,z1,z2,z3⟩,_⟩:=HKN.out
 go_enter Tryz.func26,Tryz.ntmps26
 go_wp2_with (go_at_call 58;refine (HMF.out _ HKN.out.1).mono ?_;rintro e w1 ⟨rfl,ok⟩;have HK1:=aA (HKP.out _ _ HKN.out ok);have k1:=HKW.out _ HK1.out;clear ok)
 go_region_held3 (fun w'=>w'.cell? ⟨w.heap.size,0,none⟩=some (.slice (some ⟨g,o,none⟩) G.length cap)) (go_keep)
  (first
    |(go_at_call 32;refine (HRC.out _ HK4.out.1).mono ?_;rintro e w5 ⟨ad,c,rfl,ok⟩;have HK5:=aA (HKP.out _ _ HK4.out ok);have k1:=HKW.out _ HK5.out;clear ok)
    |(go_at_call 61;refine (HTW.out _ HK3.out.1).mono ?_;rintro e w4 ⟨rfl,ok⟩;have HK4:=aA (HKP.out _ _ HK3.out ok);have k1:=HKW.out _ HK4.out;clear ok)
    |(go_at_call 60;refine (HLB.out _ HK2.out.1).mono ?_;rintro e w3 ⟨rfl,ok⟩;have HK3:=aA (HKP.out _ _ HK2.out ok);have k1:=HKW.out _ HK3.out;clear ok)
    |(go_at_call 59;refine (HLM.out _ HK1.out.1.drew).mono ?_;rintro e w2 ⟨rfl,ok⟩;have HK2:=aA (HKP.out _ _ (KeepP.drew HKP.out HK1.out) ok);have k1:=HKW.out _ HK2.out;clear ok))
 all_goals go_wp2
 all_goals go_ret
 all_goals exact ⟨rfl,HK5.out.1⟩
set_option maxHeartbeats 6400000 in
theorem qK {g o cap:Nat} {p:Addr} {w:World} (hx:NdIn w g o nd0 (.slice none 0 0) (.slice none 0 0)) (hcap:1≤cap) (he:Env w) (hf:FL w):
 Calls Tryz.prog 26 #[.agg #[.slice (some ⟨g,o,none⟩) 1 cap],.pointer (some p),.agg #[.slice none 0 0,.slice none 0 0,.slice none 0 0,.slice none 0 0],.bool true] w fun e w'=>e= .returned (.int .i64 0)∧Below w.heap.size w w':=by
 have HKN:=aA (KC.new w (.slice (some ⟨g,o,none⟩) 1 cap))
 have hG:NodesAt w (.slice (some ⟨g,o,none⟩) 1 cap) [nd0]:=⟨_,cap,rfl,hcap,Or.inr ⟨g,o,rfl,hx.2.2,fun i hi=>by
  have:i=0:=by simpa using hi
  subst this;rw [Nat.zero_mul,Nat.add_zero];exact ⟨_,_,hx⟩⟩⟩
 have hin:InG [nd0]:=fun n hn e he=>by rw [List.mem_singleton.1 hn] at he;cases he
 have HMF:Hid (∀ w1,Below w.heap.size w w1→Calls Tryz.prog 58 #[.agg #[.slice none 0 0,.slice none 0 0,.slice none 0 0,.slice none 0 0]] w1 fun e w'=>e= .returned (.bool true)∧Below w1.heap.size w1 w'):=fun w1 hb=>by
  have q:=lM (P:=⟨[],[],[],[]⟩) (w:=w1) ⟨bP w1,bP w1,bP w1,bP w1⟩ (he.below hb) (hf.below hb);rw [sY] at q;exact q
 have HLM:Hid (∀ w1,Below w.heap.size w w1→Calls Tryz.prog 59 #[.agg #[.slice (some ⟨g,o,none⟩) 1 cap]] w1 fun e w'=>e= .returned (.bool true)∧Below w1.heap.size w1 w'):=fun w1 hb=>by
  have q:=Lo.lJ (hG.below hb);rw [uR] at q;exact q
 have HLB:Hid (∀ w1,Below w.heap.size w w1→Calls Tryz.prog 60 #[.agg #[.slice (some ⟨g,o,none⟩) 1 cap]] w1 fun e w'=>e= .returned (.bool true)∧Below w1.heap.size w1 w'):=fun w1 hb=>by
  have q:=eH (hG.below hb) (by decide) jL.2 hin;rw [uT] at q;exact q
 have HTW:Hid (∀ w1,Below w.heap.size w w1→Calls Tryz.prog 61 #[.slice (some ⟨g,o,none⟩) 1 cap] w1 fun e w'=>e= .returned (.bool false)∧Below w1.heap.size w1 w'):=fun w1 hb=>by
  have q:=hI (hG.below hb) (by decide) jL.2;rw [uX] at q;exact q
 have HRC:Hid (∀ w1,Below w.heap.size w w1→Calls Tryz.prog 32 #[.agg #[.slice (some ⟨g,o,none⟩) 1 cap]] w1 fun e w'=>∃ ad c,e= .returned (.slice ad 1 c)∧Below w1.heap.size w1 w'):=fun w1 hb=>by
  refine (hR (hG.below hb) jL).mono ?_;rintro e w' ⟨ad,c,rfl,_,h⟩;exact ⟨ad,c,by rw [uV],h⟩
 have HKP:=aA (tA w (.slice (some ⟨g,o,none⟩) 1 cap));have HKW:Hid (∀ W,KC w (.slice (some ⟨g,o,none⟩) 1 cap) W→W.cell? ⟨w.heap.size,0,none⟩=some (.slice (some ⟨g,o,none⟩) 1 cap)):=fun W h=>h.2.1.1
 have HFT:Hid (∀ w1,Below w.heap.size w w1→Calls Tryz.prog 62 #[.agg #[.slice (some ⟨g,o,none⟩) 1 cap,.pointer (some p),.slice none 0 0,.slice none 0 0,.slice none 0 0,.slice none 0 0,.bool true],.int .i64 0] w1 fun e w'=>e= .returned (.bool true)∧Below w1.heap.size w1 w'):=fun w1 hb=>qI (hx.below hb) (by decide)
 clear hG he hf hin hx;obtain ⟨_,⟨y0,_⟩,⟨z0,z1,z2,z3⟩,_⟩:=HKN.out
 go_enter Tryz.func26,Tryz.ntmps26
 go_wp2_with (go_at_call 58;refine (HMF.out _ HKN.out.1).mono ?_;rintro e w1 ⟨rfl,ok⟩;have HK1:=aA (HKP.out _ _ HKN.out ok);have k1:=HKW.out _ HK1.out;clear ok)
 go_region_held3 (fun w'=>w'.cell? ⟨w.heap.size,0,none⟩=some (.slice (some ⟨g,o,none⟩) 1 cap)) (go_keep)
  (first
    |(go_at_call 32;refine (HRC.out _ HK4.out.1).mono ?_;rintro e w5 ⟨ad,c,rfl,ok⟩;have HK5:=aA (HKP.out _ _ HK4.out ok);have k1:=HKW.out _ HK5.out;clear ok)
    |(go_at_call 61;refine (HTW.out _ HK3.out.1).mono ?_;rintro e w4 ⟨rfl,ok⟩;have HK4:=aA (HKP.out _ _ HK3.out ok);have k1:=HKW.out _ HK4.out;clear ok)
    |(go_at_call 60;refine (HLB.out _ HK2.out.1).mono ?_;rintro e w3 ⟨rfl,ok⟩;have HK3:=aA (HKP.out _ _ HK2.out ok);have k1:=HKW.out _ HK3.out;clear ok)
    |(go_at_call 59;refine (HLM.out _ HK1.out.1.drew).mono ?_;rintro e w2 ⟨rfl,ok⟩;have HK2:=aA (HKP.out _ _ (KeepP.drew HKP.out HK1.out) ok);have k1:=HKW.out _ HK2.out;clear ok))
 obtain ⟨_,_,⟨z0,z1,z2,z3⟩,_⟩:=HK5.out;have HS0:Hid (Below w.heap.size w (w5.alloc (.cells #[.slice (some ⟨g,o,none⟩) 1 cap,.pointer (some p),.slice none 0 0,.slice none 0 0,.slice none 0 0,.slice none 0 0,.bool true] 109))∧BxS (w5.alloc (.cells #[.slice (some ⟨g,o,none⟩) 1 cap,.pointer (some p),.slice none 0 0,.slice none 0 0,.slice none 0 0,.slice none 0 0,.bool true] 109)) w5.heap.size (.slice (some ⟨g,o,none⟩) 1 cap) (some p)∧BxG (w5.alloc (.cells #[.slice (some ⟨g,o,none⟩) 1 cap,.pointer (some p),.slice none 0 0,.slice none 0 0,.slice none 0 0,.slice none 0 0,.bool true] 109)) w.heap.size (.slice (some ⟨g,o,none⟩) 1 cap)):=⟨aB HK5.out.1 (aD _ _),BxS.new rfl _ _,aS _ _ _ _ HK5.out.2.1 (aD _ _)⟩;obtain ⟨_,_,⟨g0,_⟩⟩:=HS0.out
 go_wp2_with fail
 clear g0 z0 z1 z2 z3 k1 y0
 go_loopw [49] (fun vi wr=>(vi= .int .i64 0∨vi= .int .i64 1)∧Below w.heap.size w wr∧BxS wr w5.heap.size (.slice (some ⟨g,o,none⟩) 1 cap) (some p)) (fun vi _=>1 - (intOf vi).toNat)
 case atStart=>exact ⟨Or.inl rfl,HS0.out.1,HS0.out.2.1⟩
 case round=>
  clear HS0;obtain ⟨rfl|rfl,hb,hs⟩:=hrel
  · have HB:=aA hb
    have HS:=aA hs;obtain ⟨⟨k0,k1,k2,k3,k4,k5,k6⟩,k7⟩:=hs;clear hb
    go_wp2_with (go_at_call 62;refine (HFT.out _ HB.out).mono ?_;rintro e w6 ⟨rfl,ok⟩;have HB6:Hid (Below w.heap.size w w6∧BxS w6 w5.heap.size (.slice (some ⟨g,o,none⟩) 1 cap) (some p)):=⟨aB HB.out ok,cC _ _ _ _ _ HS.out ok⟩;clear ok)
    exact ⟨⟨Or.inr rfl,HB6.out⟩,by decide⟩
  · have HB:=aA hb
    clear hb hs
    go_wp2
    go_ret;exact ⟨rfl,HB.out⟩
end Go.Proofs.YtbhpfedjilkelaaGreatDoor
namespace Go.Proofs.YtbhpfedjilkelaaGreatDoor
open Go.Shelf Go.RowKit Go.Lib Go.Sort
set_option maxRecDepth 100000
def nmQ (x:Pn):List UInt8:=x.nm.data.toList
def vcQ (x:Pn):Vn:=⟨x.a,x.b,x.c⟩
def uZ (x y:Pn):Int:=if Lib.compareBytes (nmQ x) (nmQ y)=0 then wA (vcQ y) (vcQ x) else Lib.compareBytes (nmQ x) (nmQ y)
def ltQ (x y:Pn):Bool:=bytesBefore (nmQ x) (nmQ y)||(decide (nmQ x=nmQ y)&&gtV (vcQ y) (vcQ x))
theorem jM (x y:Pn):ltOf uZ x y=ltQ x y:=by
 unfold ltOf uZ ltQ
 by_cases h:nmQ x=nmQ y
 · rw [if_pos ((eA _ _).2 h),decide_eq_true h,h,WideAt.bytes_irrefl,Bool.false_or,Bool.true_and,←ltG]
   rfl
 · rw [if_neg (fun q=>h ((eA _ _).1 q)),decide_eq_false h,Bool.false_and,Bool.or_false,Bool.eq_iff_iff,decide_eq_true_iff]
   exact dZ _ _
theorem oF {x y:Pn}:ltQ x y=true↔bytesBefore (nmQ x) (nmQ y)=true∨(nmQ x=nmQ y∧gtV (vcQ y) (vcQ x)=true):=by
 unfold ltQ;rw [Bool.or_eq_true,Bool.and_eq_true,decide_eq_true_iff]
theorem tB {x y:Pn}:ltQ x y=false↔bytesBefore (nmQ x) (nmQ y)=false∧(nmQ x=nmQ y→gtV (vcQ y) (vcQ x)=false):=by
 rw [Bool.eq_false_iff,ne_eq,oF,not_or]
 constructor
 · rintro ⟨h1,h2⟩
   exact ⟨Bool.eq_false_iff.2 h1,fun e=>Bool.eq_false_iff.2 fun q=>h2 ⟨e,q⟩⟩
 · rintro ⟨h1,h2⟩
   exact ⟨Bool.eq_false_iff.1 h1,fun q=>by rw [h2 q.1] at q;cases q.2⟩
theorem xA:SWO (ltOf uZ) where
 irrefl x:=by rw [jM,tB];exact ⟨WideAt.bytes_irrefl _,fun _=>mK _⟩
 trans x y z h1 h2:=by
  rw [jM,oF] at*
  rcases h1 with h1|⟨e1,g1⟩
  · rcases h2 with h2|⟨e2,g2⟩
    · exact Or.inl (WideShapes.bytes_trans _ _ _ h1 h2)
    · exact Or.inl (e2 ▸ h1)
  · rcases h2 with h2|⟨e2,g2⟩
    · exact Or.inl (e1 ▸ h2)
    · exact Or.inr ⟨e1.trans e2,pN g2 g1⟩
 ntrans x y z h1 h2:=by
  rw [jM,tB] at*;refine ⟨eV h1.1 h2.1,fun e=> ?_⟩
  have e1:nmQ x=nmQ y:=by
   by_cases q:nmQ x=nmQ y
   · exact q
   · rcases WideAt.bytes_total _ _ q with r|r
     · rw [h1.1] at r;cases r
     · rw [e] at r;rw [h2.1] at r;cases r
  exact mL (h2.2 (e1 ▸ e)) (h1.2 e1)
set_option maxHeartbeats 3200000 in
theorem nK (s t:ByteArray) (a b c x y z:Int) (w:World):Calls Tryz.prog 76 #[.agg #[.string s,.int .i64 a,.int .i64 b,.int .i64 c],.agg #[.string t,.int .i64 x,.int .i64 y,.int .i64 z]] w fun e w'=>e= .returned (.int .i64 (if Lib.compareBytes s.data.toList t.data.toList=0 then bK a b c x y z else Lib.compareBytes s.data.toList t.data.toList))∧Gd w w':=by
 have HSC:Hid (∀ W,Calls Tryz.prog 105 #[.string s,.string t] W fun e w'=>e= .returned (.int .i64 (Lib.compareBytes s.data.toList t.data.toList))∧w'=W):=fun W=>Tryz.strings_Compare s t W
 have HGF:Hid (∀ W,Calls Tryz.prog 95 #[.agg #[.int .i64 a,.int .i64 b,.int .i64 c],.agg #[.int .i64 x,.int .i64 y,.int .i64 z]] W fun e w'=>e= .returned (.int .i64 (bK a b c x y z))∧Gd W w'):=mC a b c x y z;generalize Lib.compareBytes s.data.toList t.data.toList=r1 at*;generalize bK a b c x y z=r2 at*;have HOR:Hid (∀ W:World,Calls Tryz.prog 104 #[.slice (some ⟨W.heap.size,0,none⟩) 2 2] (W.alloc (.cells #[.int .i64 r1,.int .i64 r2] 3)) fun e w'=>e= .returned (.int .i64 (if r1=0 then r2 else r1))∧w'=(W.alloc (.cells #[.int .i64 r1,.int .i64 r2] 3))):=fun W=>vX (by simp) (by simp)
 generalize (if r1=0 then r2 else r1)=rr at*;have HG0:Hid (Gd w ((w.alloc (.cells #[.string s,.int .i64 a,.int .i64 b,.int .i64 c] 80)).alloc (.cells #[.string t,.int .i64 x,.int .i64 y,.int .i64 z] 80)).drew):=(Gd.box2 _ _ _).trans (Gd.drew _)
 have HCE:Hid (∀ W:World,Gd ((w.alloc (.cells #[.string s,.int .i64 a,.int .i64 b,.int .i64 c] 80)).alloc (.cells #[.string t,.int .i64 x,.int .i64 y,.int .i64 z] 80)).drew W→(W.cell? ⟨w.heap.size,0,none⟩=some (.string s)∧W.cell? ⟨w.heap.size,1,none⟩=some (.int .i64 a)∧W.cell? ⟨w.heap.size,2,none⟩=some (.int .i64 b)∧W.cell? ⟨w.heap.size,3,none⟩=some (.int .i64 c))∧W.cell? ⟨w.heap.size+1,0,none⟩=some (.string t)∧W.cell? ⟨w.heap.size+1,1,none⟩=some (.int .i64 x)∧W.cell? ⟨w.heap.size+1,2,none⟩=some (.int .i64 y)∧W.cell? ⟨w.heap.size+1,3,none⟩=some (.int .i64 z)):=fun W hg=>by
  have hb:=hg.below;have q:∀ (g i:Nat),g<w.heap.size+2→W.cell? ⟨g,i,none⟩=((w.alloc (.cells #[.string s,.int .i64 a,.int .i64 b,.int .i64 c] 80)).alloc (.cells #[.string t,.int .i64 x,.int .i64 y,.int .i64 z] 80)).cell? ⟨g,i,none⟩:=fun g i hg=>hb.cell (p:=⟨g,i,none⟩) (by simpa using hg)
  refine ⟨⟨?_,?_,?_,?_⟩,?_,?_,?_,?_⟩<;>rw [q _ _ (by omega)]<;>simp
 obtain ⟨⟨k0,k1,k2,k3⟩,j0,j1,j2,j3⟩:=HCE.out _ (Gd.refl _)
 go_enter Tryz.func76,Tryz.ntmps76
 go_wp2_with fail
 generalize ((w.alloc (.cells #[.string s,.int .i64 a,.int .i64 b,.int .i64 c] 80)).alloc (.cells #[.string t,.int .i64 x,.int .i64 y,.int .i64 z] 80))=W0 at*
 go_region_held3 (fun w'=>w'.cell? ⟨w.heap.size,0,none⟩=some (.string s)∧w'.cell? ⟨w.heap.size,1,none⟩=some (.int .i64 a)∧w'.cell? ⟨w.heap.size,2,none⟩=some (.int .i64 b)∧w'.cell? ⟨w.heap.size,3,none⟩=some (.int .i64 c)∧w'.cell? ⟨w.heap.size+1,0,none⟩=some (.string t)∧w'.cell? ⟨w.heap.size+1,1,none⟩=some (.int .i64 x)∧w'.cell? ⟨w.heap.size+1,2,none⟩=some (.int .i64 y)∧w'.cell? ⟨w.heap.size+1,3,none⟩=some (.int .i64 z)) (go_keep) (first
  |(go_at_call 105;refine (HSC.out _).mono ?_;rintro e w1 ⟨rfl,rfl⟩)
  |(go_at_call 95;refine (HGF.out _).mono ?_;rintro e w2 ⟨rfl,hg⟩;have HG2:=aA hg;obtain ⟨⟨k0,k1,k2,k3⟩,j0,j1,j2,j3⟩:=HCE.out _ hg;clear hg)
  |(go_at_call 104;refine (HOR.out w2).mono ?_;rintro e w3 ⟨rfl,rfl⟩))
 all_goals go_wp2
 all_goals go_ret
 all_goals exact ⟨rfl,(HG0.out.trans HG2.out).trans (Gd.box _ _)⟩
theorem qL {w:World} {base:Nat} {v:Value} {V:List Pn} (hown:OwnPn w base v V) (hz:V.length≤100000000000000):
 Calls Tryz.prog 75 #[v,.func (.func 76) #[] #[]] w fun e w'=>e= .returned (.tuple #[])∧∃ ts:List Pn,ts.Perm V∧(ts.Pairwise fun x y=>ltQ y x=false)∧OwnPn w' base v ts∧w.grownBy w' v.ownBlock:=by
 haveI:Inhabited Pn:=⟨⟨⟨#[]⟩,0,0,0⟩⟩
 have eg:∀ args w,(callFunc 76 args).run Tryz.prog w= .ok (.enter 76 args) w:=enters_of Tryz.func76 (by kernel_rfl) rfl;have h:=rW Tryz.sortP 4 (by decide) Tryz.isAgg80 Tryz.sizeOf80 bT (fun _=>rfl) (fun x v hv=>by simp [bT] at hv;rcases hv with rfl|rfl|rfl|rfl<;>rfl) uZ xA 76 eg (fun x y W=>nK _ _ _ _ _ _ _ _ W) hown (by omega);simp only [jM] at h;exact h
end Go.Proofs.YtbhpfedjilkelaaGreatDoor
namespace Go.Proofs.YtbhpfedjilkelaaGreatDoor
open Go.RowKit Go.Maps Go.WideMaps
set_option maxRecDepth 100000
theorem lN (l:List Pn) (i:Nat) (h:i<l.length):(l.flatMap bT)[i*4]? =some (.string l[i].nm)∧(l.flatMap bT)[i*4+1]? =some (.int .i64 l[i].a)∧(l.flatMap bT)[i*4+2]? =some (.int .i64 l[i].b)∧(l.flatMap bT)[i*4+3]? =some (.int .i64 l[i].c):=by
 haveI:Inhabited Pn:=⟨l[i]⟩
 have h0:=bS bT 4 (fun _=>rfl) l i 0 h (by decide);have h1:=bS bT 4 (fun _=>rfl) l i 1 h (by decide);have h2:=bS bT 4 (fun _=>rfl) l i 2 h (by decide);have h3:=bS bT 4 (fun _=>rfl) l i 3 h (by decide);rw [getElem!_pos l i h] at h0 h1 h2 h3;exact ⟨h0,h1,h2,h3⟩
theorem lO {w:World} {B:Nat} {v:Value} {ps:List Pn} (h:OwnPn w B v ps) (i:Nat) (hi:i<ps.length):∃ g cap,B≤g∧g<w.heap.size∧v= .slice (some ⟨g,0,none⟩) ps.length cap∧ps.length≤cap∧PnIn w g (i*4) ps[i]:=by
 obtain ⟨g,cap,h1,h2,h3,h4,q⟩:=sD h (by omega);obtain ⟨e0,e1,e2,e3⟩:=lN ps i hi;exact ⟨g,cap,h1,h2,h3,h4,⟨q _ _ e0,q _ _ e1,q _ _ e2,q _ _ e3⟩,h2⟩
end Go.Proofs.YtbhpfedjilkelaaGreatDoor
