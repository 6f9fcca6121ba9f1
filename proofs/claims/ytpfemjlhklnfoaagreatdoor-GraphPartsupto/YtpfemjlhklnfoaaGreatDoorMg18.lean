/- Mf1, Mf2, Gl4, Gl5: their declarations that are needed, laid in one text, remarks and blanks left out. -/
import Derived.Test.YtpfemjlhklnfoaaGreatDoorMg17
namespace Go.Proofs.YtpfemjlhklnfoaaGreatDoor
open Go.RowKit
set_option maxRecDepth 100000
structure Mn where
 d:List Dp
 v:List Dp
 o:List Dp
 p:List Dp
def MnAt (w:World) (P:Mn) (v1 v2 v3 v4:Value):Prop:=DepsAt w v1 P.d∧DepsAt w v2 P.v∧DepsAt w v3 P.o∧DepsAt w v4 P.p
theorem MnAt.below {w w':World} {P:Mn} {v1 v2 v3 v4:Value} (h:MnAt w P v1 v2 v3 v4) (hb:Below w.heap.size w w'):MnAt w' P v1 v2 v3 v4:=⟨h.1.below hb,h.2.1.below hb,h.2.2.1.below hb,h.2.2.2.below hb⟩
def BxM (w:World) (N:Nat) (v1 v2 v3 v4:Value):Prop:=w.cell? ⟨N,0,none⟩=some v1∧w.cell? ⟨N,1,none⟩=some v2∧w.cell? ⟨N,2,none⟩=some v3∧w.cell? ⟨N,3,none⟩=some v4∧N<w.heap.size
theorem rE (N:Nat) (v1 v2 v3 v4:Value):KeepP fun w1=>BxM w1 N v1 v2 v3 v4:=fun w w' h hb=>by
 obtain ⟨h0,h1,h2,h3,h4⟩:=h;have q:∀ i,w'.cell? ⟨N,i,none⟩=w.cell? ⟨N,i,none⟩:=fun i=>hb.cell (p:=⟨N,i,none⟩) h4
 exact ⟨by rw [q];exact h0,by rw [q];exact h1,by rw [q];exact h2,by rw [q];exact h3,Nat.lt_of_lt_of_le h4 hb.size⟩
theorem BxM.new {w:World} {N:Nat} (hN:w.heap.size=N) (v1 v2 v3 v4:Value):BxM (w.alloc (.cells #[v1,v2,v3,v4] 57)) N v1 v2 v3 v4:=by
 subst hN;refine ⟨?_,?_,?_,?_,?_⟩<;>simp
def bC (v1 v2 v3 v4:Value):Obj:= .cells #[.string ⟨#[110,101,101,100,115]⟩,v1,.string ⟨#[100,101,118]⟩,v2,.string ⟨#[108,105,107,101,115]⟩,v3,.string ⟨#[112,105,110,115]⟩,v4] 208 (0,0)
theorem nX (a1 a2 a3 a4:Option Addr) (l1 l2 l3 l4 c1 c2 c3 c4:Nat) (w:World):
 Calls Tryz.prog 161 #[.agg #[.slice a1 l1 c1,.slice a2 l2 c2,.slice a3 l3 c3,.slice a4 l4 c4]] w fun e w'=>∃ g,e= .returned (.slice (some ⟨g,0,none⟩) 4 4)∧Below w.heap.size w w'∧w.heap.size≤g∧w'.heap[g]? =some (bC (.slice a1 l1 c1) (.slice a2 l2 c2) (.slice a3 l3 c3) (.slice a4 l4 c4)):=by
 go_enter Tryz.func161,Tryz.ntmps161
 go_wp2
 go_ret;refine ⟨w.heap.size+1,by first|rfl|simp,aM _ _ _,by omega,?_⟩;show ((w.heap.push _).push _)[w.heap.size+1]? =_;rw [Array.getElem?_push,if_pos (by simp)];rfl
noncomputable def eF (P:Mn):Bool:=(bH P.d&&(bH P.v&&(bH P.o&&bH P.p)))&&dW [P.d,P.v,P.o]
theorem yC {w:World} {A B C:List Dp} {v1 v2 v3:Value} (h1:DepsAt w v1 A) (h2:DepsAt w v2 B) (h3:DepsAt w v3 C):qN (w.alloc (.cells #[v1,v2,v3] 32)) w.heap.size 0 [A,B,C]:=by
 refine ⟨by simp,fun k hk=> ?_⟩
 match k,hk with
 |0,_=>exact ⟨v1,by simp,h1.below (aD _ _)⟩
 |1,_=>exact ⟨v2,by simp,h2.below (aD _ _)⟩
 |2,_=>exact ⟨v3,by simp,h3.below (aD _ _)⟩
theorem zQ {w:World} {A B C:List Dp} {v1 v2 v3:Value} (h1:DepsAt w v1 A) (h2:DepsAt w v2 B) (h3:DepsAt w v3 C) (k1:iR A) (k2:iR B) (k3:iR C):Calls Tryz.prog 198 #[.slice (some ⟨w.heap.size,0,none⟩) 3 3] (w.alloc (.cells #[v1,v2,v3] 32)) fun e w'=>e= .returned (.bool (dW [A,B,C]))∧Below (w.alloc (.cells #[v1,v2,v3] 32)).heap.size (w.alloc (.cells #[v1,v2,v3] 32)) w':=
 vA (Ls:=[A,B,C]) (yC h1 h2 h3) (fun L hL=>by
  simp only [List.mem_cons,List.not_mem_nil,or_false] at hL
  rcases hL with rfl|rfl|rfl<;>assumption) (by simp)
set_option maxHeartbeats 6400000 in
theorem nY {P:Mn} {v1 v2 v3 v4:Value} {w:World} (h:MnAt w P v1 v2 v3 v4):
 Calls Tryz.prog 160 #[.agg #[v1,v2,v3,v4]] w fun e w'=>e= .returned (.bool (eF P))∧Below w.heap.size w w':=by
 have HM1:Hid (∀ w1,Below w.heap.size w w1→Calls Tryz.prog 197 #[v1] w1 fun e w'=>e= .returned (.bool (bH P.d))∧Below w1.heap.size w1 w'):=fun w1 hb=>cX (h.1.below hb)
 have HM2:Hid (∀ w1,Below w.heap.size w w1→Calls Tryz.prog 197 #[v2] w1 fun e w'=>e= .returned (.bool (bH P.v))∧Below w1.heap.size w1 w'):=fun w1 hb=>cX (h.2.1.below hb)
 have HM3:Hid (∀ w1,Below w.heap.size w w1→Calls Tryz.prog 197 #[v3] w1 fun e w'=>e= .returned (.bool (bH P.o))∧Below w1.heap.size w1 w'):=fun w1 hb=>cX (h.2.2.1.below hb)
 have HM4:Hid (∀ w1,Below w.heap.size w w1→Calls Tryz.prog 197 #[v4] w1 fun e w'=>e= .returned (.bool (bH P.p))∧Below w1.heap.size w1 w'):=fun w1 hb=>cX (h.2.2.2.below hb)
 have HEO:Hid (bH P.d=true→bH P.v=true→bH P.o=true→∀ w1,Below w.heap.size w w1→Calls Tryz.prog 198 #[.slice (some ⟨w1.heap.size,0,none⟩) 3 3] (w1.alloc (.cells #[v1,v2,v3] 32)) fun e w'=>e= .returned (.bool (dW [P.d,P.v,P.o]))∧Below (w1.alloc (.cells #[v1,v2,v3] 32)).heap.size (w1.alloc (.cells #[v1,v2,v3] 32)) w'):=fun g1 g2 g3 w1 hb=>zQ (h.1.below hb) (h.2.1.below hb) (h.2.2.1.below hb) (eK g1) (eK g2) (eK g3)
 have HSB:Hid (eF P=((bH P.d&&(bH P.v&&(bH P.o&&bH P.p)))&&dW [P.d,P.v,P.o])):=rfl;obtain ⟨a1,c1,rfl⟩:=h.1.sl;obtain ⟨a2,c2,rfl⟩:=h.2.1.sl;obtain ⟨a3,c3,rfl⟩:=h.2.2.1.sl;obtain ⟨a4,c4,rfl⟩:=h.2.2.2.sl;have HLI:Hid (∀ w1,Calls Tryz.prog 161 #[.agg #[.slice a1 P.d.length c1,.slice a2 P.v.length c2,.slice a3 P.o.length c3,.slice a4 P.p.length c4]] w1 fun e w'=>∃ g,e= .returned (.slice (some ⟨g,0,none⟩) 4 4)∧Below w1.heap.size w1 w'∧w1.heap.size≤g∧w'.heap[g]? =some (bC (.slice a1 P.d.length c1) (.slice a2 P.v.length c2) (.slice a3 P.o.length c3) (.slice a4 P.p.length c4))):=fun w1=>nX _ _ _ _ _ _ _ _ _ _ _ _ w1
 clear h;generalize eF P=SB at*;generalize dW [P.d,P.v,P.o]=ob at*;generalize bH P.d=m1 at*;generalize bH P.v=m2 at*;generalize bH P.o=m3 at*;generalize bH P.p=m4 at*;generalize P.d.length=l1 at*;generalize P.v.length=l2 at*;generalize P.o.length=l3 at*;generalize P.p.length=l4 at*;have HKB:Hid (KeepP fun w1=>BxM w1 w.heap.size (.slice a1 l1 c1) (.slice a2 l2 c2) (.slice a3 l3 c3) (.slice a4 l4 c4)):=rE _ _ _ _ _
 go_enter Tryz.func160,Tryz.ntmps160
 go_wp2_with (go_at_call 161;refine (HLI.out _).mono ?_;rintro e w3 ⟨g,rfl,ok,hg,hgl⟩;have HO3:Hid ((Below w.heap.size w w3∧BxM w3 w.heap.size (.slice a1 l1 c1) (.slice a2 l2 c2) (.slice a3 l3 c3) (.slice a4 l4 c4))∧w3.heap[g]? =some (bC (.slice a1 l1 c1) (.slice a2 l2 c2) (.slice a3 l3 c3) (.slice a4 l4 c4))):=⟨⟨aB (aD _ _) ok,HKB.out _ _ (BxM.new rfl _ _ _ _) ok⟩,hgl⟩;clear ok hg hgl)
 go_loopw [8] (fun i wr=>∃ k:Nat,k≤4∧i= .int .i64 k∧((Below w.heap.size w wr∧BxM wr w.heap.size (.slice a1 l1 c1) (.slice a2 l2 c2) (.slice a3 l3 c3) (.slice a4 l4 c4))∧wr.heap[g]? =some (bC (.slice a1 l1 c1) (.slice a2 l2 c2) (.slice a3 l3 c3) (.slice a4 l4 c4)))∧(1≤k→m1=true)∧(2≤k→m2=true)∧(3≤k→m3=true)∧(4≤k→m4=true)) (fun i _=>4 - (intOf i).toNat)
 case atStart=>exact ⟨0,Nat.zero_le _,rfl,HO3.out,(fun h=>by omega),(fun h=>by omega),(fun h=>by omega),(fun h=>by omega)⟩
 case round=>
  obtain ⟨k,hk,rfl,hb,e1,e2,e3,e4⟩:=hrel;have HB:=aA hb
  rcases (show k=0∨k=1∨k=2∨k=3∨k=4 by omega) with rfl|rfl|rfl|rfl|rfl
  · have q0:wr.cell? ⟨g,0,none⟩=some (.string ⟨#[110,101,101,100,115]⟩):=by rw [Lib.cell_of_heap HB.out.2];rfl
    have q1:wr.cell? ⟨g,1,none⟩=some (.slice a1 l1 c1):=by rw [Lib.cell_of_heap HB.out.2];rfl
    have HBA:Hid ((Below w.heap.size w (wr.alloc (.cells #[.string ⟨#[110,101,101,100,115]⟩,.slice a1 l1 c1] 208))∧BxM (wr.alloc (.cells #[.string ⟨#[110,101,101,100,115]⟩,.slice a1 l1 c1] 208)) w.heap.size (.slice a1 l1 c1) (.slice a2 l2 c2) (.slice a3 l3 c3) (.slice a4 l4 c4))∧(wr.alloc (.cells #[.string ⟨#[110,101,101,100,115]⟩,.slice a1 l1 c1] 208)).heap[g]? =some (bC (.slice a1 l1 c1) (.slice a2 l2 c2) (.slice a3 l3 c3) (.slice a4 l4 c4))):=⟨⟨aB HB.out.1.1 (aD _ _),HKB.out _ _ HB.out.1.2 (aD _ _)⟩,((aD _ _).block g (Array.getElem?_eq_some_iff.1 HB.out.2).1).trans HB.out.2⟩;clear hb e1 e2 e3 e4;cases m1
    · have HR:Hid (SB=false):=by unfold Hid;rw [HSB.out];simp
      go_wp2_with (go_at_call 197;refine (HM1.out _ HBA.out.1.1).mono ?_;rintro e w4 ⟨rfl,ok⟩;have HO4:=aA (aB HBA.out.1.1 ok);clear ok)
      go_ret;exact ⟨aC HR.out.symm,HO4.out⟩
    · go_wp2_with (go_at_call 197;refine (HM1.out _ HBA.out.1.1).mono ?_;rintro e w4 ⟨rfl,ok⟩;have HO4:Hid ((Below w.heap.size w w4∧BxM w4 w.heap.size (.slice a1 l1 c1) (.slice a2 l2 c2) (.slice a3 l3 c3) (.slice a4 l4 c4))∧w4.heap[g]? =some (bC (.slice a1 l1 c1) (.slice a2 l2 c2) (.slice a3 l3 c3) (.slice a4 l4 c4))):=⟨⟨aB HBA.out.1.1 ok,HKB.out _ _ HBA.out.1.2 ok⟩,(ok.block g (Array.getElem?_eq_some_iff.1 HBA.out.2).1).trans HBA.out.2⟩;clear ok)
      exact ⟨⟨1,by omega,rfl,HO4.out,(fun _=>trivial),(fun h=>by omega),(fun h=>by omega),(fun h=>by omega)⟩,by simp [intOf]⟩
  · have e1':=e1 (by omega)
    subst e1';have q0:wr.cell? ⟨g,2,none⟩=some (.string ⟨#[100,101,118]⟩):=by rw [Lib.cell_of_heap HB.out.2];rfl
    have q1:wr.cell? ⟨g,3,none⟩=some (.slice a2 l2 c2):=by rw [Lib.cell_of_heap HB.out.2];rfl
    have HBA:Hid ((Below w.heap.size w (wr.alloc (.cells #[.string ⟨#[100,101,118]⟩,.slice a2 l2 c2] 208))∧BxM (wr.alloc (.cells #[.string ⟨#[100,101,118]⟩,.slice a2 l2 c2] 208)) w.heap.size (.slice a1 l1 c1) (.slice a2 l2 c2) (.slice a3 l3 c3) (.slice a4 l4 c4))∧(wr.alloc (.cells #[.string ⟨#[100,101,118]⟩,.slice a2 l2 c2] 208)).heap[g]? =some (bC (.slice a1 l1 c1) (.slice a2 l2 c2) (.slice a3 l3 c3) (.slice a4 l4 c4))):=⟨⟨aB HB.out.1.1 (aD _ _),HKB.out _ _ HB.out.1.2 (aD _ _)⟩,((aD _ _).block g (Array.getElem?_eq_some_iff.1 HB.out.2).1).trans HB.out.2⟩;clear hb e1 e2 e3 e4;cases m2
    · have HR:Hid (SB=false):=by unfold Hid;rw [HSB.out];simp
      go_wp2_with (go_at_call 197;refine (HM2.out _ HBA.out.1.1).mono ?_;rintro e w4 ⟨rfl,ok⟩;have HO4:=aA (aB HBA.out.1.1 ok);clear ok)
      go_ret;exact ⟨aC HR.out.symm,HO4.out⟩
    · go_wp2_with (go_at_call 197;refine (HM2.out _ HBA.out.1.1).mono ?_;rintro e w4 ⟨rfl,ok⟩;have HO4:Hid ((Below w.heap.size w w4∧BxM w4 w.heap.size (.slice a1 l1 c1) (.slice a2 l2 c2) (.slice a3 l3 c3) (.slice a4 l4 c4))∧w4.heap[g]? =some (bC (.slice a1 l1 c1) (.slice a2 l2 c2) (.slice a3 l3 c3) (.slice a4 l4 c4))):=⟨⟨aB HBA.out.1.1 ok,HKB.out _ _ HBA.out.1.2 ok⟩,(ok.block g (Array.getElem?_eq_some_iff.1 HBA.out.2).1).trans HBA.out.2⟩;clear ok)
      exact ⟨⟨2,by omega,rfl,HO4.out,(fun _=>trivial),(fun _=>trivial),(fun h=>by omega),(fun h=>by omega)⟩,by simp [intOf]⟩
  · have e1':=e1 (by omega)
    have e2':=e2 (by omega);subst e1' e2';have q0:wr.cell? ⟨g,4,none⟩=some (.string ⟨#[108,105,107,101,115]⟩):=by rw [Lib.cell_of_heap HB.out.2];rfl
    have q1:wr.cell? ⟨g,5,none⟩=some (.slice a3 l3 c3):=by rw [Lib.cell_of_heap HB.out.2];rfl
    have HBA:Hid ((Below w.heap.size w (wr.alloc (.cells #[.string ⟨#[108,105,107,101,115]⟩,.slice a3 l3 c3] 208))∧BxM (wr.alloc (.cells #[.string ⟨#[108,105,107,101,115]⟩,.slice a3 l3 c3] 208)) w.heap.size (.slice a1 l1 c1) (.slice a2 l2 c2) (.slice a3 l3 c3) (.slice a4 l4 c4))∧(wr.alloc (.cells #[.string ⟨#[108,105,107,101,115]⟩,.slice a3 l3 c3] 208)).heap[g]? =some (bC (.slice a1 l1 c1) (.slice a2 l2 c2) (.slice a3 l3 c3) (.slice a4 l4 c4))):=⟨⟨aB HB.out.1.1 (aD _ _),HKB.out _ _ HB.out.1.2 (aD _ _)⟩,((aD _ _).block g (Array.getElem?_eq_some_iff.1 HB.out.2).1).trans HB.out.2⟩;clear hb e1 e2 e3 e4;cases m3
    · have HR:Hid (SB=false):=by unfold Hid;rw [HSB.out];simp
      go_wp2_with (go_at_call 197;refine (HM3.out _ HBA.out.1.1).mono ?_;rintro e w4 ⟨rfl,ok⟩;have HO4:=aA (aB HBA.out.1.1 ok);clear ok)
      go_ret;exact ⟨aC HR.out.symm,HO4.out⟩
    · go_wp2_with (go_at_call 197;refine (HM3.out _ HBA.out.1.1).mono ?_;rintro e w4 ⟨rfl,ok⟩;have HO4:Hid ((Below w.heap.size w w4∧BxM w4 w.heap.size (.slice a1 l1 c1) (.slice a2 l2 c2) (.slice a3 l3 c3) (.slice a4 l4 c4))∧w4.heap[g]? =some (bC (.slice a1 l1 c1) (.slice a2 l2 c2) (.slice a3 l3 c3) (.slice a4 l4 c4))):=⟨⟨aB HBA.out.1.1 ok,HKB.out _ _ HBA.out.1.2 ok⟩,(ok.block g (Array.getElem?_eq_some_iff.1 HBA.out.2).1).trans HBA.out.2⟩;clear ok)
      exact ⟨⟨3,by omega,rfl,HO4.out,(fun _=>trivial),(fun _=>trivial),(fun _=>trivial),(fun h=>by omega)⟩,by simp [intOf]⟩
  · have e1':=e1 (by omega)
    have e2':=e2 (by omega);have e3':=e3 (by omega);subst e1' e2' e3';have q0:wr.cell? ⟨g,6,none⟩=some (.string ⟨#[112,105,110,115]⟩):=by rw [Lib.cell_of_heap HB.out.2];rfl
    have q1:wr.cell? ⟨g,7,none⟩=some (.slice a4 l4 c4):=by rw [Lib.cell_of_heap HB.out.2];rfl
    have HBA:Hid ((Below w.heap.size w (wr.alloc (.cells #[.string ⟨#[112,105,110,115]⟩,.slice a4 l4 c4] 208))∧BxM (wr.alloc (.cells #[.string ⟨#[112,105,110,115]⟩,.slice a4 l4 c4] 208)) w.heap.size (.slice a1 l1 c1) (.slice a2 l2 c2) (.slice a3 l3 c3) (.slice a4 l4 c4))∧(wr.alloc (.cells #[.string ⟨#[112,105,110,115]⟩,.slice a4 l4 c4] 208)).heap[g]? =some (bC (.slice a1 l1 c1) (.slice a2 l2 c2) (.slice a3 l3 c3) (.slice a4 l4 c4))):=⟨⟨aB HB.out.1.1 (aD _ _),HKB.out _ _ HB.out.1.2 (aD _ _)⟩,((aD _ _).block g (Array.getElem?_eq_some_iff.1 HB.out.2).1).trans HB.out.2⟩;clear hb e1 e2 e3 e4;cases m4
    · have HR:Hid (SB=false):=by unfold Hid;rw [HSB.out];simp
      go_wp2_with (go_at_call 197;refine (HM4.out _ HBA.out.1.1).mono ?_;rintro e w4 ⟨rfl,ok⟩;have HO4:=aA (aB HBA.out.1.1 ok);clear ok)
      go_ret;exact ⟨aC HR.out.symm,HO4.out⟩
    · go_wp2_with (go_at_call 197;refine (HM4.out _ HBA.out.1.1).mono ?_;rintro e w4 ⟨rfl,ok⟩;have HO4:Hid ((Below w.heap.size w w4∧BxM w4 w.heap.size (.slice a1 l1 c1) (.slice a2 l2 c2) (.slice a3 l3 c3) (.slice a4 l4 c4))∧w4.heap[g]? =some (bC (.slice a1 l1 c1) (.slice a2 l2 c2) (.slice a3 l3 c3) (.slice a4 l4 c4))):=⟨⟨aB HBA.out.1.1 ok,HKB.out _ _ HBA.out.1.2 ok⟩,(ok.block g (Array.getElem?_eq_some_iff.1 HBA.out.2).1).trans HBA.out.2⟩;clear ok)
      exact ⟨⟨4,by omega,rfl,HO4.out,(fun _=>trivial),(fun _=>trivial),(fun _=>trivial),(fun _=>trivial)⟩,by simp [intOf]⟩
  · have e1':=e1 (by omega)
    have e2':=e2 (by omega);have e3':=e3 (by omega);have e4':=e4 (by omega);subst e1' e2' e3' e4';have HR:Hid (SB=ob):=by unfold Hid;rw [HSB.out];simp
    have HEW:=aA (HEO.out rfl rfl rfl);obtain ⟨k0,k1,k2,k3,k4⟩:=HB.out.1.2;clear hb e1 e2 e3 e4
    go_wp2_with (go_at_call 198;refine (HEW.out _ HB.out.1.1).mono ?_;rintro e w4 ⟨rfl,ok⟩;have HO4:=aA (aB (aB HB.out.1.1 (aD _ _)) ok);clear ok)
    go_ret;exact ⟨aC HR.out.symm,HO4.out⟩
def mwK:Nat→ByteArray
 |0=>⟨#[110,101,101,100,115]⟩
 |1=>⟨#[100,101,118]⟩
 |2=>⟨#[108,105,107,101,115]⟩
 |_=>⟨#[112,105,110,115]⟩
theorem lJ (k:Nat):(mwK k).size≤16:=by
 match k with
 |0|1|2=>decide
 |_+3=>show (⟨#[112,105,110,115]⟩:ByteArray).size≤16;decide
def dJ (P:Mn):Nat→Sc.Bs
 |0=>[112,114,111,106,101,99,116,10]
 |1=>[112,114,111,106,101,99,116,10]++bE (mwK 0) P.d
 |2=>[112,114,111,106,101,99,116,10]++bE (mwK 0) P.d++bE (mwK 1) P.v
 |3=>[112,114,111,106,101,99,116,10]++bE (mwK 0) P.d++bE (mwK 1) P.v++bE (mwK 2) P.o
 |_=>[112,114,111,106,101,99,116,10]++bE (mwK 0) P.d++bE (mwK 1) P.v++bE (mwK 2) P.o++bE (mwK 3) P.p
def kK (P:Mn):Sc.Bs:=dJ P 4
noncomputable def aP (P:Mn):Bool:=eF P&&decide ((kK P).length≤4096)
noncomputable def bS (P:Mn):ByteArray:=if aP P=true then ⟨(kK P).toArray⟩ else ⟨#[]⟩
set_option maxHeartbeats 6400000 in
theorem jK {P:Mn} {v1 v2 v3 v4:Value} {w:World} (h:MnAt w P v1 v2 v3 v4) (he:Env w) (hf:FL w) (hsd:eF P=true):
 Calls Tryz.prog 106 #[.agg #[v1,v2,v3,v4]] w fun e w'=>e= .returned (.tuple #[.string (bS P),.bool (aP P)])∧Below w.heap.size w w':=by
 have HSO:Hid (∀ w1,Below w.heap.size w w1→Calls Tryz.prog 160 #[.agg #[v1,v2,v3,v4]] w1 fun e w'=>e= .returned (.bool true)∧Below w1.heap.size w1 w'):=fun w1 hb=>by have:=nY (h.below hb);rw [hsd] at this;exact this
 have hs:=hsd;unfold eF at hs;simp only [Bool.and_eq_true] at hs;obtain ⟨⟨hd,hv,ho,hp⟩,_⟩:=hs;have HPG:Hid (∀ w1,Below w.heap.size w w1→MnAt w1 P v1 v2 v3 v4):=fun w1 hb=>h.below hb
 have HMD:Hid (bH P.d=true∧bH P.v=true∧bH P.o=true∧bH P.p=true):=⟨hd,hv,ho,hp⟩;have HF0:=aA (fO (lJ 0) hd P.d.length);have HF1:=aA (fO (lJ 1) hv P.v.length);have HF2:=aA (fO (lJ 2) ho P.o.length);rw [List.take_length] at HF0 HF1 HF2;have HWB:Hid (aP P=decide ((kK P).length≤4096)):=by unfold Hid aP;rw [hsd];rfl
 have HPT:Hid (dJ P 4=kK P):=rfl;obtain ⟨a1,c1,rfl⟩:=h.1.sl;obtain ⟨a2,c2,rfl⟩:=h.2.1.sl;obtain ⟨a3,c3,rfl⟩:=h.2.2.1.sl;obtain ⟨a4,c4,rfl⟩:=h.2.2.2.sl;have HLI:Hid (∀ w1,Calls Tryz.prog 161 #[.agg #[.slice a1 P.d.length c1,.slice a2 P.v.length c2,.slice a3 P.o.length c3,.slice a4 P.p.length c4]] w1 fun e w'=>∃ g,e= .returned (.slice (some ⟨g,0,none⟩) 4 4)∧Below w1.heap.size w1 w'∧w1.heap.size≤g∧w'.heap[g]? =some (bC (.slice a1 P.d.length c1) (.slice a2 P.v.length c2) (.slice a3 P.o.length c3) (.slice a4 P.p.length c4))):=fun w1=>nX _ _ _ _ _ _ _ _ _ _ _ _ w1
 have HLE:Hid (∀ w1 l w',TW w1 l w'→Calls Tryz.prog 136 #[.pointer (some ⟨w1.heap.size,0,none⟩)] w' fun e w2=>e= .returned (.int .i64 l.length)∧w2=w'):=fun w1 l w' h=>xL h.1
 have HST:Hid (∀ w1 l w',TW w1 l w'→Calls Tryz.prog 137 #[.pointer (some ⟨w1.heap.size,0,none⟩)] w' fun e w2=>e= .returned (.string ⟨l.toArray⟩)∧Below w1.heap.size w' w2):=fun w1 l w' h=>Tryz.Builder_String_any _ _ l w' h.1 h.2.size
 have HWR:Hid (∀ w1,Below w.heap.size w w1→∀ (l:Sc.Bs) wz (x:ByteArray) v L,TW w1 l wz→DepsAt w1 v L→bH L=true→x.size≤16→l.length≤1000000→Calls Tryz.prog 135 #[.pointer (some ⟨w1.heap.size,0,none⟩),.string x,v] wz fun e w'=>e= .returned (.tuple #[])∧TW w1 (l++bE x L) w'∧FarB w1.heap.size wz w'):=fun w1 hb l wz x v L h1 h2 h3 h4 h5=>sG h1 h2 h3 (he.below hb) (hf.below hb) h4 h5
 have HPU:Hid (∀ w1 (l:Sc.Bs) wz (s:ByteArray),TW w1 l wz→l.length≤1000000→s.size≤1000000→Calls Tryz.prog 131 #[.pointer (some ⟨w1.heap.size,0,none⟩),.string s] wz fun e w'=>e= .returned (.tuple #[.int .i64 s.size,.nilIface])∧TW w1 (l++s.data.toList) w'∧FarB w1.heap.size wz w'):=fun w1 l wz s h1 h2 h3=>h1.put s (by omega) h3
 clear h he hf hsd hd hv ho hp;have HBX:Hid (BxM (w.alloc (.cells #[.slice a1 P.d.length c1,.slice a2 P.v.length c2,.slice a3 P.o.length c3,.slice a4 P.p.length c4] 57)) w.heap.size (.slice a1 P.d.length c1) (.slice a2 P.v.length c2) (.slice a3 P.o.length c3) (.slice a4 P.p.length c4)):=BxM.new rfl _ _ _ _;have HKB:Hid (KeepP fun w1=>BxM w1 w.heap.size (.slice a1 P.d.length c1) (.slice a2 P.v.length c2) (.slice a3 P.o.length c3) (.slice a4 P.p.length c4)):=rE _ _ _ _ _
 go_enter Tryz.func106,Tryz.ntmps106
 go_wp2_with (first
  |(go_at_call 160;refine (HSO.out _ (aD _ _)).mono ?_;rintro e w1 ⟨rfl,ok⟩;have HO1:Hid (Below w.heap.size w w1∧BxM w1 w.heap.size (.slice a1 P.d.length c1) (.slice a2 P.v.length c2) (.slice a3 P.o.length c3) (.slice a4 P.p.length c4)):=⟨aB (aD _ _) ok,HKB.out _ _ HBX.out ok⟩;have HT0:Hid (TW w1 [] (w1.alloc (.cells #[.pointer none,.slice none 0 0] 173))):=TW.new w1;clear ok HBX)
  |(go_at_call 131;refine (HPU.out w1 [] _ ⟨#[112,114,111,106,101,99,116,10]⟩ HT0.out (by decide) (by decide)).mono ?_;rintro e w3 ⟨rfl,ok,_⟩;have HT3:Hid (TW w1 (dJ P 0) w3):=ok;have HX3:=aA (HKB.out _ _ HO1.out.2 HT3.out.2);obtain ⟨k0,k1,k2,k3,k4⟩:=HX3.out;clear ok)
  |(go_at_call 161;refine (HLI.out _).mono ?_;rintro e w4 ⟨g,rfl,ok,hg,hgl⟩;have HT4:Hid (TW w1 (dJ P 0) w4∧w4.heap[g]? =some (bC (.slice a1 P.d.length c1) (.slice a2 P.v.length c2) (.slice a3 P.o.length c3) (.slice a4 P.p.length c4))∧w1.heap.size<g):=⟨fA _ _ _ _ HT3.out ok,hgl,by have:=HT3.out.far;omega⟩;clear ok hg hgl k0 k1 k2 k3 k4))
 go_loopw [14] (fun i wr=>∃ k:Nat,k≤4∧i= .int .i64 k∧TW w1 (dJ P k) wr∧wr.heap[g]? =some (bC (.slice a1 P.d.length c1) (.slice a2 P.v.length c2) (.slice a3 P.o.length c3) (.slice a4 P.p.length c4))∧w1.heap.size<g) (fun i _=>4 - (intOf i).toNat)
 case atStart=>exact ⟨0,Nat.zero_le _,rfl,HT4.out⟩
 case round=>
  clear HT4;obtain ⟨k,hk,rfl,htw⟩:=hrel
  rcases (show k=0∨k=1∨k=2∨k=3∨k=4 by omega) with rfl|rfl|rfl|rfl|rfl
  · have HTK:=aA htw
    clear htw;have q0:wr.cell? ⟨g,0,none⟩=some (.string ⟨#[110,101,101,100,115]⟩):=by rw [Lib.cell_of_heap HTK.out.2.1];rfl
    have q1:wr.cell? ⟨g,1,none⟩=some (.slice a1 P.d.length c1):=by rw [Lib.cell_of_heap HTK.out.2.1];rfl
    have hpl:(dJ P 0).length≤1000000:=by
     have h2:=HF0.out;have h3:=HF1.out;have h4:=HF2.out;show 8≤1000000;decide
    have HTA:Hid (TW w1 (dJ P 0) (wr.alloc (.cells #[.string ⟨#[110,101,101,100,115]⟩,.slice a1 P.d.length c1] 208))∧(wr.alloc (.cells #[.string ⟨#[110,101,101,100,115]⟩,.slice a1 P.d.length c1] 208)).heap[g]? =some (bC (.slice a1 P.d.length c1) (.slice a2 P.v.length c2) (.slice a3 P.o.length c3) (.slice a4 P.p.length c4))∧w1.heap.size<g):=⟨fA _ _ _ _ HTK.out.1 (aD _ _),((aD _ _).block g (Array.getElem?_eq_some_iff.1 HTK.out.2.1).1).trans HTK.out.2.1,HTK.out.2.2⟩
    go_wp2_with (go_at_call 135;refine (HWR.out w1 HO1.out.1 _ _ ⟨#[110,101,101,100,115]⟩ _ P.d HTA.out.1 (HPG.out w1 HO1.out.1).1 HMD.out.1 (by decide) hpl).mono ?_;rintro e w5 ⟨rfl,ok,far⟩;have HT5:Hid (TW w1 (dJ P (0+1)) w5∧w5.heap[g]? =some (bC (.slice a1 P.d.length c1) (.slice a2 P.v.length c2) (.slice a3 P.o.length c3) (.slice a4 P.p.length c4))∧w1.heap.size<g):=⟨ok,far _ _ _ _ HTA.out.2.1 (by decide) (by have:=HTA.out.2.2;omega),HTA.out.2.2⟩;clear ok far)
    exact ⟨⟨0+1,by omega,rfl,HT5.out⟩,by simp [intOf]⟩
  · have HTK:=aA htw
    clear htw;have q0:wr.cell? ⟨g,2,none⟩=some (.string ⟨#[100,101,118]⟩):=by rw [Lib.cell_of_heap HTK.out.2.1];rfl
    have q1:wr.cell? ⟨g,3,none⟩=some (.slice a2 P.v.length c2):=by rw [Lib.cell_of_heap HTK.out.2.1];rfl
    have hpl:(dJ P 1).length≤1000000:=by
     have h2:=HF0.out;have h3:=HF1.out;have h4:=HF2.out;simp only [dJ,List.length_append,List.length_cons,List.length_nil] at*;omega
    have HTA:Hid (TW w1 (dJ P 1) (wr.alloc (.cells #[.string ⟨#[100,101,118]⟩,.slice a2 P.v.length c2] 208))∧(wr.alloc (.cells #[.string ⟨#[100,101,118]⟩,.slice a2 P.v.length c2] 208)).heap[g]? =some (bC (.slice a1 P.d.length c1) (.slice a2 P.v.length c2) (.slice a3 P.o.length c3) (.slice a4 P.p.length c4))∧w1.heap.size<g):=⟨fA _ _ _ _ HTK.out.1 (aD _ _),((aD _ _).block g (Array.getElem?_eq_some_iff.1 HTK.out.2.1).1).trans HTK.out.2.1,HTK.out.2.2⟩
    go_wp2_with (go_at_call 135;refine (HWR.out w1 HO1.out.1 _ _ ⟨#[100,101,118]⟩ _ P.v HTA.out.1 (HPG.out w1 HO1.out.1).2.1 HMD.out.2.1 (by decide) hpl).mono ?_;rintro e w5 ⟨rfl,ok,far⟩;have HT5:Hid (TW w1 (dJ P (1+1)) w5∧w5.heap[g]? =some (bC (.slice a1 P.d.length c1) (.slice a2 P.v.length c2) (.slice a3 P.o.length c3) (.slice a4 P.p.length c4))∧w1.heap.size<g):=⟨ok,far _ _ _ _ HTA.out.2.1 (by decide) (by have:=HTA.out.2.2;omega),HTA.out.2.2⟩;clear ok far)
    exact ⟨⟨1+1,by omega,rfl,HT5.out⟩,by simp [intOf]⟩
  · have HTK:=aA htw
    clear htw;have q0:wr.cell? ⟨g,4,none⟩=some (.string ⟨#[108,105,107,101,115]⟩):=by rw [Lib.cell_of_heap HTK.out.2.1];rfl
    have q1:wr.cell? ⟨g,5,none⟩=some (.slice a3 P.o.length c3):=by rw [Lib.cell_of_heap HTK.out.2.1];rfl
    have hpl:(dJ P 2).length≤1000000:=by
     have h2:=HF0.out;have h3:=HF1.out;have h4:=HF2.out;simp only [dJ,List.length_append,List.length_cons,List.length_nil] at*;omega
    have HTA:Hid (TW w1 (dJ P 2) (wr.alloc (.cells #[.string ⟨#[108,105,107,101,115]⟩,.slice a3 P.o.length c3] 208))∧(wr.alloc (.cells #[.string ⟨#[108,105,107,101,115]⟩,.slice a3 P.o.length c3] 208)).heap[g]? =some (bC (.slice a1 P.d.length c1) (.slice a2 P.v.length c2) (.slice a3 P.o.length c3) (.slice a4 P.p.length c4))∧w1.heap.size<g):=⟨fA _ _ _ _ HTK.out.1 (aD _ _),((aD _ _).block g (Array.getElem?_eq_some_iff.1 HTK.out.2.1).1).trans HTK.out.2.1,HTK.out.2.2⟩
    go_wp2_with (go_at_call 135;refine (HWR.out w1 HO1.out.1 _ _ ⟨#[108,105,107,101,115]⟩ _ P.o HTA.out.1 (HPG.out w1 HO1.out.1).2.2.1 HMD.out.2.2.1 (by decide) hpl).mono ?_;rintro e w5 ⟨rfl,ok,far⟩;have HT5:Hid (TW w1 (dJ P (2+1)) w5∧w5.heap[g]? =some (bC (.slice a1 P.d.length c1) (.slice a2 P.v.length c2) (.slice a3 P.o.length c3) (.slice a4 P.p.length c4))∧w1.heap.size<g):=⟨ok,far _ _ _ _ HTA.out.2.1 (by decide) (by have:=HTA.out.2.2;omega),HTA.out.2.2⟩;clear ok far)
    exact ⟨⟨2+1,by omega,rfl,HT5.out⟩,by simp [intOf]⟩
  · have HTK:=aA htw
    clear htw;have q0:wr.cell? ⟨g,6,none⟩=some (.string ⟨#[112,105,110,115]⟩):=by rw [Lib.cell_of_heap HTK.out.2.1];rfl
    have q1:wr.cell? ⟨g,7,none⟩=some (.slice a4 P.p.length c4):=by rw [Lib.cell_of_heap HTK.out.2.1];rfl
    have hpl:(dJ P 3).length≤1000000:=by
     have h2:=HF0.out;have h3:=HF1.out;have h4:=HF2.out;simp only [dJ,List.length_append,List.length_cons,List.length_nil] at*;omega
    have HTA:Hid (TW w1 (dJ P 3) (wr.alloc (.cells #[.string ⟨#[112,105,110,115]⟩,.slice a4 P.p.length c4] 208))∧(wr.alloc (.cells #[.string ⟨#[112,105,110,115]⟩,.slice a4 P.p.length c4] 208)).heap[g]? =some (bC (.slice a1 P.d.length c1) (.slice a2 P.v.length c2) (.slice a3 P.o.length c3) (.slice a4 P.p.length c4))∧w1.heap.size<g):=⟨fA _ _ _ _ HTK.out.1 (aD _ _),((aD _ _).block g (Array.getElem?_eq_some_iff.1 HTK.out.2.1).1).trans HTK.out.2.1,HTK.out.2.2⟩
    go_wp2_with (go_at_call 135;refine (HWR.out w1 HO1.out.1 _ _ ⟨#[112,105,110,115]⟩ _ P.p HTA.out.1 (HPG.out w1 HO1.out.1).2.2.2 HMD.out.2.2.2 (by decide) hpl).mono ?_;rintro e w5 ⟨rfl,ok,far⟩;have HT5:Hid (TW w1 (dJ P (3+1)) w5∧w5.heap[g]? =some (bC (.slice a1 P.d.length c1) (.slice a2 P.v.length c2) (.slice a3 P.o.length c3) (.slice a4 P.p.length c4))∧w1.heap.size<g):=⟨ok,far _ _ _ _ HTA.out.2.1 (by decide) (by have:=HTA.out.2.2;omega),HTA.out.2.2⟩;clear ok far)
    exact ⟨⟨3+1,by omega,rfl,HT5.out⟩,by simp [intOf]⟩
  · have HTE:=aA htw.1
    rw [HPT.out] at HTE;clear htw
    by_cases hlen:(kK P).length≤4096
    · have HR:Hid (aP P=true∧bS P=⟨(kK P).toArray⟩):=by
       have:aP P=true:=by rw [HWB.out];exact decide_eq_true hlen
       exact ⟨this,by unfold bS;rw [if_pos this]⟩
      go_wp2_with (first
       |(go_at_call 136;refine (HLE.out _ _ _ HTE.out).mono ?_;rintro e w5 ⟨rfl,rfl⟩)
       |(go_at_call 137;refine (HST.out _ _ _ HTE.out).mono ?_;rintro e w6 ⟨rfl,ok⟩;have HB6:=aA (aB HO1.out.1 (HTE.out.2.trans ok));clear ok))
      go_ret2;exact ⟨by rw [HR.out.1,HR.out.2];rfl,HB6.out⟩
    · have HR:Hid (aP P=false∧bS P=⟨#[]⟩):=by
       have:aP P=false:=by rw [HWB.out];exact decide_eq_false hlen
       exact ⟨this,by unfold bS;rw [if_neg (by rw [this];simp)]⟩
      go_wp2_with (go_at_call 136;refine (HLE.out _ _ _ HTE.out).mono ?_;rintro e w5 ⟨rfl,rfl⟩)
      go_ret2;exact ⟨by rw [HR.out.1,HR.out.2];rfl,aB HO1.out.1 HTE.out.2⟩
theorem lK {P:Mn} {v1 v2 v3 v4:Value} {w:World} (h:MnAt w P v1 v2 v3 v4) (he:Env w) (hf:FL w):
 Calls Tryz.prog 106 #[.agg #[v1,v2,v3,v4]] w fun e w'=>e= .returned (.tuple #[.string (bS P),.bool (aP P)])∧Below w.heap.size w w':=by
 cases hsd:eF P
 · have HSO:Hid (∀ w1,Below w.heap.size w w1→Calls Tryz.prog 160 #[.agg #[v1,v2,v3,v4]] w1 fun e w'=>e= .returned (.bool false)∧Below w1.heap.size w1 w'):=fun w1 hb=>by have:=nY (h.below hb);rw [hsd] at this;exact this
   have HR:Hid (aP P=false∧bS P=⟨#[]⟩):=by
    have:aP P=false:=by unfold aP;rw [hsd];rfl
    exact ⟨this,by unfold bS;rw [if_neg (by rw [this];simp)]⟩
   obtain ⟨a1,c1,rfl⟩:=h.1.sl;obtain ⟨a2,c2,rfl⟩:=h.2.1.sl;obtain ⟨a3,c3,rfl⟩:=h.2.2.1.sl;obtain ⟨a4,c4,rfl⟩:=h.2.2.2.sl;clear h he hf hsd
   go_enter Tryz.func106,Tryz.ntmps106
   go_wp2_with (go_at_call 160;refine (HSO.out _ (aD _ _)).mono ?_;rintro e w1 ⟨rfl,ok⟩;have HO1:=aA (aB (aD _ _) ok);clear ok)
   go_ret2;exact ⟨by rw [HR.out.1,HR.out.2];rfl,HO1.out⟩
 · exact jK h he hf hsd
theorem nZ {P:Mn} {v1 v2 v3 v4:Value} {w:World} (h:MnAt w P v1 v2 v3 v4) (he:Env w) (hf:FL w):
 Calls Tryz.prog 58 #[.agg #[v1,v2,v3,v4]] w fun e w'=>e= .returned (.bool (aP P))∧Below w.heap.size w w':=by
 have HW:Hid (∀ w1,Below w.heap.size w w1→Calls Tryz.prog 106 #[.agg #[v1,v2,v3,v4]] w1 fun e w'=>e= .returned (.tuple #[.string (bS P),.bool (aP P)])∧Below w1.heap.size w1 w'):=fun w1 hb=>lK (h.below hb) (he.below hb) (hf.below hb)
 obtain ⟨a1,c1,rfl⟩:=h.1.sl;obtain ⟨a2,c2,rfl⟩:=h.2.1.sl;obtain ⟨a3,c3,rfl⟩:=h.2.2.1.sl;obtain ⟨a4,c4,rfl⟩:=h.2.2.2.sl;clear h he hf
 go_enter Tryz.func58,Tryz.ntmps58
 go_wp2_with (go_at_call 106;refine (HW.out _ (aD _ _)).mono ?_;rintro e w1 ⟨rfl,ok⟩;have HO1:=aA (aB (aD _ _) ok);clear ok)
 go_ret;exact ⟨rfl,HO1.out⟩
end Go.Proofs.YtpfemjlhklnfoaaGreatDoor
namespace Go.Proofs.YtpfemjlhklnfoaaGreatDoor
open Go.Shelf Go.RowKit Go.Maps Go.WideMaps
set_option maxRecDepth 100000
def nd0:Nd:=ndB ⟨#[]⟩ 0 0 0
def nd1:Nd:=ndB ⟨#[97]⟩ 0 0 0
theorem yD:Lo.gN [nd0]=true:=by decide
theorem yE:Lo.gN [nd0,nd1]=true:=by decide
theorem yF:kR [nd0]=true:=by rfl
theorem yG:kR [nd0,nd1]=true:=by rfl
theorem yH:(cP [nd0]).length=1:=by decide
theorem yI:(cP [nd0,nd1]).length=1:=by decide
theorem yJ:dR [] [nd0]=false:=by rfl
theorem yK:dR [] [nd0,nd1]=false:=by
 have h:bW nd0 nd1=false:=by
  unfold bW
  have e:bD (bV nd0) (bV nd1)=false:=by
   rw [Bool.eq_false_iff];intro e;have q:=congrArg Pn.nm (bI.1 e);unfold bV nd0 nd1 ndB at q
   simp at q
  rw [e];rfl
 unfold dR dR;simp [h,dR]
theorem wE:aP ⟨[],[],[],[]⟩=true:=by
 unfold aP eF;rw [Bool.and_eq_true];refine ⟨?_,decide_eq_true ?_⟩
 · rw [mK (by simp [cZ])]
   rfl
 · decide
theorem lL:GrB [nd0]:=⟨⟨by decide,by decide⟩,fun n hn=>by rw [List.mem_singleton.1 hn];exact ⟨by decide,by decide⟩⟩
theorem wF:GrB [nd0,nd1]:=⟨⟨by decide,by decide⟩,fun n hn=>by
 rcases List.mem_cons.1 hn with rfl|hn
 · exact ⟨by decide,by decide⟩
 · rw [List.mem_singleton.1 hn];exact ⟨by decide,by decide⟩⟩
def KC (w:World) (v:Value) (W:World):Prop:=Below w.heap.size w W∧BxG W w.heap.size v∧(W.cell? ⟨w.heap.size+1,0,none⟩=some (.slice none 0 0)∧W.cell? ⟨w.heap.size+1,1,none⟩=some (.slice none 0 0)∧W.cell? ⟨w.heap.size+1,2,none⟩=some (.slice none 0 0)∧W.cell? ⟨w.heap.size+1,3,none⟩=some (.slice none 0 0))∧w.heap.size+1<W.heap.size
theorem wG (w:World) (v:Value):KeepP (KC w v):=fun _ _ ⟨h1,h2,⟨h3,h4,h5,h6⟩,h7⟩ hb=>
 ⟨aB h1 hb,aW _ _ _ _ h2 hb,⟨(hb.cell (p:=⟨w.heap.size+1,0,none⟩) h7).trans h3,(hb.cell (p:=⟨w.heap.size+1,1,none⟩) h7).trans h4,(hb.cell (p:=⟨w.heap.size+1,2,none⟩) h7).trans h5,(hb.cell (p:=⟨w.heap.size+1,3,none⟩) h7).trans h6⟩,Nat.lt_of_lt_of_le h7 hb.size⟩
theorem KC.new (w:World) (v:Value):KC w v ((w.alloc (.cells #[v] 55)).alloc (.cells #[.slice none 0 0,.slice none 0 0,.slice none 0 0,.slice none 0 0] 57)):=
 ⟨aM _ _ _,aW _ _ _ _ (BxG.new rfl _) (aD _ _),⟨by simp,by simp,by simp,by simp⟩,by simp⟩
set_option maxHeartbeats 1600000 in
theorem tO {ad:Option Addr} {n cap:Nat} {w:World}:
 Calls Tryz.prog 26 #[.agg #[.slice ad n cap],.pointer none,.agg #[.slice none 0 0,.slice none 0 0,.slice none 0 0,.slice none 0 0],.bool true] w fun e w'=>e= .returned (.int .i64 1)∧Below w.heap.size w w':=by
 have HK:=aA (KC.new w (.slice ad n cap))
 go_enter Tryz.func26,Tryz.ntmps26
 go_wp2
 go_ret;exact ⟨rfl,HK.out.1⟩
set_option maxHeartbeats 6400000 in
theorem qA {G:List Nd} {g o cap:Nat} {p:Addr} {w:World} (hG:NodesAt w (.slice (some ⟨g,o,none⟩) G.length cap) G) (he:Env w) (hf:FL w) (hm:Lo.gN G=true) (hlb:kR G=true) (htw:dR [] G=false) (hB:GrB G) (hin:InG G) (hr:(cP G).length<G.length):
 Calls Tryz.prog 26 #[.agg #[.slice (some ⟨g,o,none⟩) G.length cap],.pointer (some p),.agg #[.slice none 0 0,.slice none 0 0,.slice none 0 0,.slice none 0 0],.bool true] w fun e w'=>e= .returned (.int .i64 33)∧Below w.heap.size w w':=by
 have HKN:=aA (KC.new w (.slice (some ⟨g,o,none⟩) G.length cap));have hz:G.length≤9223372036854775807:=by have:=hB.1.1;omega
 have HMF:Hid (∀ w1,Below w.heap.size w w1→Calls Tryz.prog 58 #[.agg #[.slice none 0 0,.slice none 0 0,.slice none 0 0,.slice none 0 0]] w1 fun e w'=>e= .returned (.bool true)∧Below w1.heap.size w1 w'):=fun w1 hb=>by
  have q:=nZ (P:=⟨[],[],[],[]⟩) (w:=w1) ⟨bU w1,bU w1,bU w1,bU w1⟩ (he.below hb) (hf.below hb);rw [wE] at q;exact q
 have HLM:Hid (∀ w1,Below w.heap.size w w1→Calls Tryz.prog 59 #[.agg #[.slice (some ⟨g,o,none⟩) G.length cap]] w1 fun e w'=>e= .returned (.bool true)∧Below w1.heap.size w1 w'):=fun w1 hb=>by
  have q:=Lo.nW (hG.below hb);rw [hm] at q;exact q
 have HLB:Hid (∀ w1,Below w.heap.size w w1→Calls Tryz.prog 60 #[.agg #[.slice (some ⟨g,o,none⟩) G.length cap]] w1 fun e w'=>e= .returned (.bool true)∧Below w1.heap.size w1 w'):=fun w1 hb=>by
  have q:=fJ (hG.below hb) hz hB.2 hin;rw [hlb] at q;exact q
 have HTW:Hid (∀ w1,Below w.heap.size w w1→Calls Tryz.prog 61 #[.slice (some ⟨g,o,none⟩) G.length cap] w1 fun e w'=>e= .returned (.bool false)∧Below w1.heap.size w1 w'):=fun w1 hb=>by
  have q:=jU (hG.below hb) hz hB.2;rw [htw] at q;exact q
 have HRC:Hid (∀ w1,Below w.heap.size w w1→Calls Tryz.prog 32 #[.agg #[.slice (some ⟨g,o,none⟩) G.length cap]] w1 fun e w'=>∃ ad c,e= .returned (.slice ad (cP G).length c)∧Below w1.heap.size w1 w'):=fun w1 hb=>by
  refine (gI (hG.below hb) hB).mono ?_;rintro e w' ⟨ad,c,rfl,_,h⟩;exact ⟨ad,c,rfl,h⟩
 have HKP:=aA (wG w (.slice (some ⟨g,o,none⟩) G.length cap));have HKW:Hid (∀ W,KC w (.slice (some ⟨g,o,none⟩) G.length cap) W→W.cell? ⟨w.heap.size,0,none⟩=some (.slice (some ⟨g,o,none⟩) G.length cap)):=fun W h=>h.2.1.1
 clear hG he hf hm hlb htw hB hin;generalize hrl:(cP G).length=rl at*;have hrl2:(rl:Int)<(G.length:Int):=by omega
 obtain ⟨_,⟨y0,_⟩,⟨z0,z1,z2,z3⟩,_⟩:=HKN.out
 go_enter Tryz.func26,Tryz.ntmps26
 go_wp2_with (go_at_call 58;refine (HMF.out _ HKN.out.1).mono ?_;rintro e w1 ⟨rfl,ok⟩;have HK1:=aA (HKP.out _ _ HKN.out ok);have k1:=HKW.out _ HK1.out;clear ok)
 go_region_held3 (fun w'=>w'.cell? ⟨w.heap.size,0,none⟩=some (.slice (some ⟨g,o,none⟩) G.length cap)) (go_keep)
  (first
    |(go_at_call 32;refine (HRC.out _ HK4.out.1).mono ?_;rintro e w5 ⟨ad,c,rfl,ok⟩;have HK5:=aA (HKP.out _ _ HK4.out ok);have k1:=HKW.out _ HK5.out;clear ok)
    |(go_at_call 61;refine (HTW.out _ HK3.out.1).mono ?_;rintro e w4 ⟨rfl,ok⟩;have HK4:=aA (HKP.out _ _ HK3.out ok);have k1:=HKW.out _ HK4.out;clear ok)
    |(go_at_call 60;refine (HLB.out _ HK2.out.1).mono ?_;rintro e w3 ⟨rfl,ok⟩;have HK3:=aA (HKP.out _ _ HK2.out ok);have k1:=HKW.out _ HK3.out;clear ok)
    |(go_at_call 59;refine (HLM.out _ HK1.out.1.drew).mono ?_;rintro e w2 ⟨rfl,ok⟩;have HK2:=aA (HKP.out _ _ (KeepP.drew HKP.out HK1.out) ok);have k1:=HKW.out _ HK2.out;clear ok))
 all_goals go_wp2
 all_goals go_ret
 all_goals exact ⟨rfl,HK5.out.1⟩
set_option maxHeartbeats 6400000 in
theorem tP {g o cap:Nat} {p:Addr} {w:World} (hx:NdIn w g o nd0 (.slice none 0 0) (.slice none 0 0)) (hcap:1≤cap) (he:Env w) (hf:FL w):
 Calls Tryz.prog 26 #[.agg #[.slice (some ⟨g,o,none⟩) 1 cap],.pointer (some p),.agg #[.slice none 0 0,.slice none 0 0,.slice none 0 0,.slice none 0 0],.bool true] w fun e w'=>e= .returned (.int .i64 0)∧Below w.heap.size w w':=by
 have HKN:=aA (KC.new w (.slice (some ⟨g,o,none⟩) 1 cap))
 have hG:NodesAt w (.slice (some ⟨g,o,none⟩) 1 cap) [nd0]:=⟨_,cap,rfl,hcap,Or.inr ⟨g,o,rfl,hx.2.2,fun i hi=>by
  have:i=0:=by simpa using hi
  subst this;rw [Nat.zero_mul,Nat.add_zero];exact ⟨_,_,hx⟩⟩⟩
 have hin:InG [nd0]:=fun n hn e he=>by rw [List.mem_singleton.1 hn] at he;cases he
 have HMF:Hid (∀ w1,Below w.heap.size w w1→Calls Tryz.prog 58 #[.agg #[.slice none 0 0,.slice none 0 0,.slice none 0 0,.slice none 0 0]] w1 fun e w'=>e= .returned (.bool true)∧Below w1.heap.size w1 w'):=fun w1 hb=>by
  have q:=nZ (P:=⟨[],[],[],[]⟩) (w:=w1) ⟨bU w1,bU w1,bU w1,bU w1⟩ (he.below hb) (hf.below hb);rw [wE] at q;exact q
 have HLM:Hid (∀ w1,Below w.heap.size w w1→Calls Tryz.prog 59 #[.agg #[.slice (some ⟨g,o,none⟩) 1 cap]] w1 fun e w'=>e= .returned (.bool true)∧Below w1.heap.size w1 w'):=fun w1 hb=>by
  have q:=Lo.nW (hG.below hb);rw [yD] at q;exact q
 have HLB:Hid (∀ w1,Below w.heap.size w w1→Calls Tryz.prog 60 #[.agg #[.slice (some ⟨g,o,none⟩) 1 cap]] w1 fun e w'=>e= .returned (.bool true)∧Below w1.heap.size w1 w'):=fun w1 hb=>by
  have q:=fJ (hG.below hb) (by decide) lL.2 hin;rw [yF] at q;exact q
 have HTW:Hid (∀ w1,Below w.heap.size w w1→Calls Tryz.prog 61 #[.slice (some ⟨g,o,none⟩) 1 cap] w1 fun e w'=>e= .returned (.bool false)∧Below w1.heap.size w1 w'):=fun w1 hb=>by
  have q:=jU (hG.below hb) (by decide) lL.2;rw [yJ] at q;exact q
 have HRC:Hid (∀ w1,Below w.heap.size w w1→Calls Tryz.prog 32 #[.agg #[.slice (some ⟨g,o,none⟩) 1 cap]] w1 fun e w'=>∃ ad c,e= .returned (.slice ad 1 c)∧Below w1.heap.size w1 w'):=fun w1 hb=>by
  refine (gI (hG.below hb) lL).mono ?_;rintro e w' ⟨ad,c,rfl,_,h⟩;exact ⟨ad,c,by rw [yH],h⟩
 have HKP:=aA (wG w (.slice (some ⟨g,o,none⟩) 1 cap));have HKW:Hid (∀ W,KC w (.slice (some ⟨g,o,none⟩) 1 cap) W→W.cell? ⟨w.heap.size,0,none⟩=some (.slice (some ⟨g,o,none⟩) 1 cap)):=fun W h=>h.2.1.1
 have HFT:Hid (∀ w1,Below w.heap.size w w1→Calls Tryz.prog 62 #[.agg #[.slice (some ⟨g,o,none⟩) 1 cap,.pointer (some p),.slice none 0 0,.slice none 0 0,.slice none 0 0,.slice none 0 0,.bool true],.int .i64 0] w1 fun e w'=>e= .returned (.bool true)∧Below w1.heap.size w1 w'):=fun w1 hb=>tN (hx.below hb) (by decide)
 clear hG he hf hin hx;obtain ⟨_,⟨y0,_⟩,⟨z0,z1,z2,z3⟩,_⟩:=HKN.out
 go_enter Tryz.func26,Tryz.ntmps26
 go_wp2_with (go_at_call 58;refine (HMF.out _ HKN.out.1).mono ?_;rintro e w1 ⟨rfl,ok⟩;have HK1:=aA (HKP.out _ _ HKN.out ok);have k1:=HKW.out _ HK1.out;clear ok)
 go_region_held3 (fun w'=>w'.cell? ⟨w.heap.size,0,none⟩=some (.slice (some ⟨g,o,none⟩) 1 cap)) (go_keep)
  (first
    |(go_at_call 32;refine (HRC.out _ HK4.out.1).mono ?_;rintro e w5 ⟨ad,c,rfl,ok⟩;have HK5:=aA (HKP.out _ _ HK4.out ok);have k1:=HKW.out _ HK5.out;clear ok)
    |(go_at_call 61;refine (HTW.out _ HK3.out.1).mono ?_;rintro e w4 ⟨rfl,ok⟩;have HK4:=aA (HKP.out _ _ HK3.out ok);have k1:=HKW.out _ HK4.out;clear ok)
    |(go_at_call 60;refine (HLB.out _ HK2.out.1).mono ?_;rintro e w3 ⟨rfl,ok⟩;have HK3:=aA (HKP.out _ _ HK2.out ok);have k1:=HKW.out _ HK3.out;clear ok)
    |(go_at_call 59;refine (HLM.out _ HK1.out.1.drew).mono ?_;rintro e w2 ⟨rfl,ok⟩;have HK2:=aA (HKP.out _ _ (KeepP.drew HKP.out HK1.out) ok);have k1:=HKW.out _ HK2.out;clear ok))
 obtain ⟨_,_,⟨z0,z1,z2,z3⟩,_⟩:=HK5.out;have HS0:Hid (Below w.heap.size w (w5.alloc (.cells #[.slice (some ⟨g,o,none⟩) 1 cap,.pointer (some p),.slice none 0 0,.slice none 0 0,.slice none 0 0,.slice none 0 0,.bool true] 109))∧BxS (w5.alloc (.cells #[.slice (some ⟨g,o,none⟩) 1 cap,.pointer (some p),.slice none 0 0,.slice none 0 0,.slice none 0 0,.slice none 0 0,.bool true] 109)) w5.heap.size (.slice (some ⟨g,o,none⟩) 1 cap) (some p)∧BxG (w5.alloc (.cells #[.slice (some ⟨g,o,none⟩) 1 cap,.pointer (some p),.slice none 0 0,.slice none 0 0,.slice none 0 0,.slice none 0 0,.bool true] 109)) w.heap.size (.slice (some ⟨g,o,none⟩) 1 cap)):=⟨aB HK5.out.1 (aD _ _),BxS.new rfl _ _,aW _ _ _ _ HK5.out.2.1 (aD _ _)⟩;obtain ⟨_,_,⟨g0,_⟩⟩:=HS0.out
 go_wp2_with fail
 clear g0 z0 z1 z2 z3 k1 y0
 go_loopw [49] (fun vi wr=>(vi= .int .i64 0∨vi= .int .i64 1)∧Below w.heap.size w wr∧BxS wr w5.heap.size (.slice (some ⟨g,o,none⟩) 1 cap) (some p)) (fun vi _=>1 - (intOf vi).toNat)
 case atStart=>exact ⟨Or.inl rfl,HS0.out.1,HS0.out.2.1⟩
 case round=>
  clear HS0;obtain ⟨rfl|rfl,hb,hs⟩:=hrel
  · have HB:=aA hb
    have HS:=aA hs;obtain ⟨⟨k0,k1,k2,k3,k4,k5,k6⟩,k7⟩:=hs;clear hb
    go_wp2_with (go_at_call 62;refine (HFT.out _ HB.out).mono ?_;rintro e w6 ⟨rfl,ok⟩;have HB6:Hid (Below w.heap.size w w6∧BxS w6 w5.heap.size (.slice (some ⟨g,o,none⟩) 1 cap) (some p)):=⟨aB HB.out ok,cQ _ _ _ _ _ HS.out ok⟩;clear ok)
    exact ⟨⟨Or.inr rfl,HB6.out⟩,by decide⟩
  · have HB:=aA hb
    clear hb hs
    go_wp2
    go_ret;exact ⟨rfl,HB.out⟩
theorem kL (w:World):vF w 2:=fun w1 B v ts _ hB ho hl=>by
 have HO:=aA ho;have HE:Hid (dq ts=ts):=iV (by omega);obtain ⟨ad,cap,rfl⟩:=ho.lenG;have hl2:(ts.length:Int)<2:=by omega
 have hd:decide ((ts.length:Int)<2)=true:=decide_eq_true hl2;have HQ:Hid (∃ v',Ending.returned (.slice ad ts.length cap)= .returned v'∧OwnPn w1 B v' (dq ts)∧Below B w1 w1):=⟨_,rfl,by rw [HE.out];exact HO.out,Below.refl _ _⟩;clear ho hB hl
 go_enter Tryz.func77,Tryz.ntmps77
 go_wp2
 go_ret;exact HQ.out
def KL (w:World) (B:Nat) (W:World):Prop:=Below w.heap.size w W∧(W.cell? ⟨B+1,0,none⟩=some (.slice (some ⟨B,0,none⟩) 1 1)∧B+1<W.heap.size)∧(W.cell? ⟨B+3,0,none⟩=some (.slice (some ⟨B+2,0,none⟩) 2 2)∧B+3<W.heap.size)∧NdIn W B 0 nd0 (.slice none 0 0) (.slice none 0 0)∧NodesAt W (.slice (some ⟨B,0,none⟩) 1 1) [nd0]∧NodesAt W (.slice (some ⟨B+2,0,none⟩) 2 2) [nd0,nd1]
theorem zR (w:World) (B:Nat):KeepP (KL w B):=fun _ _ ⟨h1,⟨h2,h3⟩,⟨h4,h5⟩,h6,h7,h8⟩ hb=>
 ⟨aB h1 hb,⟨(hb.cell (p:=⟨B+1,0,none⟩) h3).trans h2,Nat.lt_of_lt_of_le h3 hb.size⟩,⟨(hb.cell (p:=⟨B+3,0,none⟩) h5).trans h4,Nat.lt_of_lt_of_le h5 hb.size⟩,h6.below hb,h7.below hb,h8.below hb⟩
theorem KL.new (w W:World) (hb:Below w.heap.size w W):KL w W.heap.size ((((W.alloc (.cells #[.string ⟨#[]⟩,.int .i64 0,.int .i64 0,.int .i64 0,.slice none 0 0,.slice none 0 0] 67)).alloc (.cells #[.slice (some ⟨W.heap.size,0,none⟩) 1 1] 55)).alloc (.cells #[.string ⟨#[]⟩,.int .i64 0,.int .i64 0,.int .i64 0,.slice none 0 0,.slice none 0 0,.string ⟨#[97]⟩,.int .i64 0,.int .i64 0,.int .i64 0,.slice none 0 0,.slice none 0 0] 67)).alloc (.cells #[.slice (some ⟨W.heap.size+2,0,none⟩) 2 2] 55)):=by
 obtain ⟨Y1,h1⟩:∃ X,X=W.alloc (.cells #[.string ⟨#[]⟩,.int .i64 0,.int .i64 0,.int .i64 0,.slice none 0 0,.slice none 0 0] 67):=⟨_,rfl⟩;have s1:Y1.heap.size=W.heap.size+1:=by rw [h1];simp
 have c1:Y1.cell? ⟨W.heap.size,0,none⟩=some (.string ⟨#[]⟩)∧Y1.cell? ⟨W.heap.size,0+1,none⟩=some (.int .i64 0)∧Y1.cell? ⟨W.heap.size,0+2,none⟩=some (.int .i64 0)∧Y1.cell? ⟨W.heap.size,0+3,none⟩=some (.int .i64 0)∧Y1.cell? ⟨W.heap.size,0+4,none⟩=some (.slice none 0 0)∧Y1.cell? ⟨W.heap.size,0+5,none⟩=some (.slice none 0 0):=by
  rw [h1];refine ⟨?_,?_,?_,?_,?_,?_⟩<;>simp
 have b1:Below w.heap.size w Y1:=by rw [h1];exact aB hb (aD _ _)
 rw [←h1];obtain ⟨Y2,h2⟩:∃ X,X=Y1.alloc (.cells #[.slice (some ⟨W.heap.size,0,none⟩) 1 1] 55):=⟨_,rfl⟩;have s2:Y2.heap.size=W.heap.size+2:=by rw [h2];simp;omega
 have c2:Y2.cell? ⟨W.heap.size+1,0,none⟩=some (.slice (some ⟨W.heap.size,0,none⟩) 1 1):=by rw [h2,←s1];simp
 have b2:Below Y1.heap.size Y1 Y2:=by rw [h2];exact aD _ _
 rw [←h2];obtain ⟨Y3,h3⟩:∃ X,X=Y2.alloc (.cells #[.string ⟨#[]⟩,.int .i64 0,.int .i64 0,.int .i64 0,.slice none 0 0,.slice none 0 0,.string ⟨#[97]⟩,.int .i64 0,.int .i64 0,.int .i64 0,.slice none 0 0,.slice none 0 0] 67):=⟨_,rfl⟩;have s3:Y3.heap.size=W.heap.size+3:=by rw [h3];simp;omega
 have c3:(Y3.cell? ⟨W.heap.size+2,0,none⟩=some (.string ⟨#[]⟩)∧Y3.cell? ⟨W.heap.size+2,0+1,none⟩=some (.int .i64 0)∧Y3.cell? ⟨W.heap.size+2,0+2,none⟩=some (.int .i64 0)∧Y3.cell? ⟨W.heap.size+2,0+3,none⟩=some (.int .i64 0)∧Y3.cell? ⟨W.heap.size+2,0+4,none⟩=some (.slice none 0 0)∧Y3.cell? ⟨W.heap.size+2,0+5,none⟩=some (.slice none 0 0))∧Y3.cell? ⟨W.heap.size+2,6,none⟩=some (.string ⟨#[97]⟩)∧Y3.cell? ⟨W.heap.size+2,6+1,none⟩=some (.int .i64 0)∧Y3.cell? ⟨W.heap.size+2,6+2,none⟩=some (.int .i64 0)∧Y3.cell? ⟨W.heap.size+2,6+3,none⟩=some (.int .i64 0)∧Y3.cell? ⟨W.heap.size+2,6+4,none⟩=some (.slice none 0 0)∧Y3.cell? ⟨W.heap.size+2,6+5,none⟩=some (.slice none 0 0):=by
  rw [h3,←s2];refine ⟨⟨?_,?_,?_,?_,?_,?_⟩,?_,?_,?_,?_,?_,?_⟩<;>simp
 have b3:Below Y2.heap.size Y2 Y3:=by rw [h3];exact aD _ _
 rw [←h3];obtain ⟨Y4,h4⟩:∃ X,X=Y3.alloc (.cells #[.slice (some ⟨W.heap.size+2,0,none⟩) 2 2] 55):=⟨_,rfl⟩;have s4:Y4.heap.size=W.heap.size+4:=by rw [h4];simp;omega
 have c4:Y4.cell? ⟨W.heap.size+3,0,none⟩=some (.slice (some ⟨W.heap.size+2,0,none⟩) 2 2):=by rw [h4,←s3];simp
 have b4:Below Y3.heap.size Y3 Y4:=by rw [h4];exact aD _ _
 rw [←h4];have d1:NdIn Y4 W.heap.size 0 nd0 (.slice none 0 0) (.slice none 0 0):=NdIn.below (NdIn.below (NdIn.below (w:=Y1) ⟨c1,⟨hJ _ _ _,fS _ _ _⟩,by omega⟩ b2) b3) b4;have d3:NdIn Y4 (W.heap.size+2) 0 nd0 (.slice none 0 0) (.slice none 0 0):=NdIn.below (w:=Y3) ⟨c3.1,⟨hJ _ _ _,fS _ _ _⟩,by omega⟩ b4;have d4:NdIn Y4 (W.heap.size+2) 6 nd1 (.slice none 0 0) (.slice none 0 0):=NdIn.below (w:=Y3) ⟨c3.2,⟨hJ _ _ _,fS _ _ _⟩,by omega⟩ b4;refine ⟨aB (aB (aB b1 b2) b3) b4,⟨?_,by omega⟩,⟨c4,by omega⟩,d1,?_,?_⟩
 · exact (b4.cell (p:=⟨W.heap.size+1,0,none⟩) (by show W.heap.size+1<_;omega)).trans ((b3.cell (p:=⟨W.heap.size+1,0,none⟩) (by show W.heap.size+1<_;omega)).trans c2)
 · refine ⟨_,1,rfl,Nat.le_refl _,Or.inr ⟨_,0,rfl,by omega,fun i hi=> ?_⟩⟩
   have:i=0:=by simpa using hi
   subst this;exact ⟨_,_,d1⟩
 · refine ⟨_,2,rfl,Nat.le_refl _,Or.inr ⟨_,0,rfl,by omega,fun i hi=> ?_⟩⟩
   have:i=0∨i=1:=by simp at hi;omega
   rcases this with rfl|rfl
   · exact ⟨_,_,d3⟩
   · exact ⟨_,_,d4⟩
theorem lM (us:List Pn) (h:us.Perm (aR [nd0,nd1] 2)):(dq us).length=1:=by
 have hl:us.length=1:=h.length_eq;rw [iV (by omega),hl]
theorem kM {P:Nd→Prop} (h0:P nd0) (h1:P nd1):∀ n ∈ [nd0,nd1],P n:=fun n hn=>by
 rcases List.mem_cons.1 hn with rfl|hn
 · exact h0
 · rw [List.mem_singleton.1 hn];exact h1
set_option maxHeartbeats 1000000 in
theorem oA {w:World} (he:Env w) (hf:FL w):
 Calls Tryz.prog 28 #[] w fun e w'=>e= .returned (.bool true)∧Below w.heap.size w w':=by
 have HNW:Hid (Calls Tryz.prog 9 #[] w fun e w'=>∃ a,e= .returned (.pointer (some a))∧Below w.heap.size w w'):=(xG w).mono fun e w' ⟨h1,h2⟩=>⟨_,h1,by rw [h2];exact aM _ _ _⟩
 have HKL0:=aA (fun W h2=>KL.new w W h2);have HKP:=aA (fun B=>zR w B);have HC1:Hid (∀ B a W,KL w B W→Calls Tryz.prog 26 #[.agg #[.slice (some ⟨B,0,none⟩) 1 1],.pointer (some a),.agg #[.slice none 0 0,.slice none 0 0,.slice none 0 0,.slice none 0 0],.bool true] W fun e w'=>e= .returned (.int .i64 0)∧Below W.heap.size W w'):=fun B a W h=>tP h.2.2.2.1 (Nat.le_refl _) (he.below h.1) (hf.below h.1)
 have HC2:Hid (∀ B a W,KL w B W→Calls Tryz.prog 26 #[.agg #[.slice (some ⟨B+2,0,none⟩) 2 2],.pointer (some a),.agg #[.slice none 0 0,.slice none 0 0,.slice none 0 0,.slice none 0 0],.bool true] W fun e w'=>e= .returned (.int .i64 33)∧Below W.heap.size W w'):=fun B a W h=>qA (G:=[nd0,nd1]) h.2.2.2.2.2 (he.below h.1) (hf.below h.1) yE yG yK wF (kM (P:=fun n=>∀ e ∈ n.ed,0≤e.to∧e.to<(([nd0,nd1]:List Nd).length:Int)) (fun e he=>by cases he) (fun e he=>by cases he)) (by rw [yI];decide)
 have HC3:Hid (∀ B W,Calls Tryz.prog 26 #[.agg #[.slice (some ⟨B,0,none⟩) 1 1],.pointer none,.agg #[.slice none 0 0,.slice none 0 0,.slice none 0 0,.slice none 0 0],.bool true] W fun e w'=>e= .returned (.int .i64 1)∧Below W.heap.size W w'):=fun B W=>tO
 have HPN:Hid (∀ B W,KL w B W→Calls Tryz.prog 35 #[.agg #[.slice (some ⟨B+2,0,none⟩) 2 2]] W fun e w'=>∃ ad c,e= .returned (.slice ad 1 c)∧Below W.heap.size W w'):=fun B W h=>by
  refine (mT (G:=[nd0,nd1]) h.2.2.2.2.2 wF (kM (P:=fun n=>n.nm.size≤281474976710656) (by decide) (by decide)) (by decide) (kL W)).mono ?_;rintro e w' ⟨v,us,rfl,⟨hp,_⟩,ho,hb⟩;obtain ⟨ad,c,rfl⟩:=ho.lenG;exact ⟨ad,c,by rw [lM us hp],hb⟩
 have HSM:Hid (∀ B W,KL w B W→Calls Tryz.prog 38 #[.agg #[.slice (some ⟨B,0,none⟩) 1 1],.agg #[.slice (some ⟨B,0,none⟩) 1 1]] W fun e w'=>e= .returned (.bool true)∧Below W.heap.size W w'):=fun B W h=>by
  have q:=rU h.2.2.2.2.1 h.2.2.2.2.1 (by decide) lL.2;rw [aN rfl] at q;exact q
 clear he hf
 go_enter Tryz.func28,Tryz.ntmps28
 go_wp2_with (first
  |(go_at_call 9;refine HNW.out.mono ?_;rintro e w1 ⟨a,rfl,ok⟩;have HK0:=aA (HKL0.out w1 ok);obtain ⟨_,⟨k1,_⟩,⟨k3,_⟩,_⟩:=HK0.out;clear ok)
  |(have _t:=HK4;go_at_call 38;refine (HSM.out w1.heap.size _ HK4.out).mono ?_;rintro e w6 ⟨rfl,ok⟩;have HK5:=aA (HKP.out _ _ _ HK4.out ok);clear ok)
  |(have _t:=HK3;go_at_call 35;refine (HPN.out w1.heap.size _ HK3.out).mono ?_;rintro e w5 ⟨ad,c,rfl,ok⟩;have HK4:=aA (HKP.out _ _ _ HK3.out ok);obtain ⟨_,⟨k1,_⟩,⟨k3,_⟩,_⟩:=HK4.out;clear ok)
  |(have _t:=HK2;go_at_call 26;refine (HC3.out w1.heap.size _).mono ?_;rintro e w4 ⟨rfl,ok⟩;have HK3:=aA (HKP.out _ _ _ HK2.out ok);obtain ⟨_,⟨k1,_⟩,⟨k3,_⟩,_⟩:=HK3.out;clear ok)
  |(have _t:=HK1;go_at_call 26;refine (HC2.out w1.heap.size a _ HK1.out).mono ?_;rintro e w3 ⟨rfl,ok⟩;have HK2:=aA (HKP.out _ _ _ HK1.out ok);obtain ⟨_,⟨k1,_⟩,⟨k3,_⟩,_⟩:=HK2.out;clear ok)
  |(have _t:=HK0;go_at_call 26;refine (HC1.out w1.heap.size a _ HK0.out).mono ?_;rintro e w2 ⟨rfl,ok⟩;have HK1:=aA (HKP.out _ _ _ HK0.out ok);obtain ⟨_,⟨k1,_⟩,⟨k3,_⟩,_⟩:=HK1.out;clear ok))
 go_ret;exact ⟨rfl,HK5.out.1⟩
end Go.Proofs.YtpfemjlhklnfoaaGreatDoor
