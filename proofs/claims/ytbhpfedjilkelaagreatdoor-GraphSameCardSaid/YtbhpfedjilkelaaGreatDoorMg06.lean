/- Gd0, Ct2, Ct1, Ct4, ScNm1, ScNm2, Pk3, Pk4, ScBd1, Wr1, Pk6, Pk7: their declarations that are needed, laid in one text, remarks and blanks left out. -/
import Derived.Test.YtbhpfedjilkelaaGreatDoorScA
import Derived.Lib.LazyBuf
import Derived.Deep.CutRange
import Derived.BigRegion
import Derived.DeepKeys4
import Derived.Maps.OwnSet
import Derived.Maps.RangeWalk
import Derived.Maps.Own
import Derived.Maps.Views
import Derived.Shelf.Strings.Builder1
import Derived.Test.YtbhpfedjilkelaaGreatDoorScC
import Derived.Laws.RangeAny
import Derived.Lib.OthersKept
import Derived.Lib.IndexMore
import Derived.Lib.CountLaws
import Derived.Test.YtbhpfedjilkelaaGreatDoorMg05
namespace Go.Proofs.YtbhpfedjilkelaaGreatDoor
open Go.Shelf Go.RowKit Go.Lib Go.Sort
set_option maxRecDepth 100000
def Gd (w w':World):Prop:=∃ q os',w'=grow (w.drewN q) os'
theorem Gd.refl (w:World):Gd w w:=⟨0,#[],by rw [grow_empty];rfl⟩
theorem Gd.drew (w:World):Gd w w.drew:=⟨1,#[],by rw [grow_empty];rfl⟩
theorem Gd.box (w:World) (o:Obj):Gd w (w.alloc o):=⟨0,#[o],by rw [alloc_eq_grow];rfl⟩
theorem Gd.trans {a b c:World} (h:Gd a b) (h':Gd b c):Gd a c:=by
 obtain ⟨q,os,rfl⟩:=h;obtain ⟨q',os',rfl⟩:=h';refine ⟨q+q',os++os',?_⟩;simp [grow,World.drewN,Array.append_assoc,Nat.add_assoc]
theorem Gd.box2 (w:World) (o u:Obj):Gd w ((w.alloc o).alloc u):=(Gd.box w o).trans (Gd.box _ u)
theorem Gd.below {w w':World} (h:Gd w w'):Below w.heap.size w w':=by
 obtain ⟨q,os,rfl⟩:=h;refine ⟨rfl,rfl,rfl,by simp [grow,World.drewN],fun k hk=> ?_⟩;show (w.heap++os)[k]? =_;rw [Array.getElem?_append_left hk]
set_option maxHeartbeats 400000 in
theorem tW (a b c x y z:Int) (w:World):
 Calls Tryz.prog 153 #[.agg #[.int .i64 a,.int .i64 b,.int .i64 c],.agg #[.int .i64 x,.int .i64 y,.int .i64 z]] w fun e w'=>e= .returned (.bool (dU a b c x y z))∧Gd w w':=by
 go_enter Tryz.func153,Tryz.ntmps153
 go_wp2
 all_goals
  go_ret;exact ⟨aC (by unfold dU;simp_all),Gd.box2 _ _ _⟩
set_option maxHeartbeats 800000 in
theorem mC (a b c x y z:Int) (w:World):
 Calls Tryz.prog 95 #[.agg #[.int .i64 a,.int .i64 b,.int .i64 c],.agg #[.int .i64 x,.int .i64 y,.int .i64 z]] w fun e w'=>e= .returned (.int .i64 (bK a b c x y z))∧Gd w w':=by
 have he:=qR a b c x y z;have hg:=fN;have hl:=tW a b c x y z
 by_cases h:a=x∧b=y∧c=z
 · have HC:Hid (bK a b c x y z=0):=by unfold Hid bK;obtain ⟨h1,h2,h3⟩:=h;rw [if_pos h1,if_pos h2,if_pos h3]
   rw [decide_eq_true h] at he;clear h
   go_enter Tryz.func95,Tryz.ntmps95
   go_wp2
   go_ret;exact ⟨aY HC.out.symm,Gd.box2 _ _ _⟩
 · rw [decide_eq_false h] at he
   cases hc:dU a b c x y z
   · have HC:Hid (bK a b c x y z=1):=by unfold Hid bK;unfold dU at hc;grind
     rw [hc] at hl;clear h hc
     go_enter Tryz.func95,Tryz.ntmps95
     go_wp2_with (go_at_call 153;refine (hl _).mono ?_;rintro e w' ⟨rfl,hb⟩)
     go_ret;exact ⟨aY HC.out.symm,(Gd.box2 _ _ _).trans hb⟩
   · have HC:Hid (bK a b c x y z= -1):=by unfold Hid bK;unfold dU at hc;grind
     rw [hc] at hl;clear h hc
     go_enter Tryz.func95,Tryz.ntmps95
     go_wp2_with (go_at_call 153;refine (hl _).mono ?_;rintro e w' ⟨rfl,hb⟩)
     go_ret;exact ⟨aY HC.out.symm,(Gd.box2 _ _ _).trans hb⟩
theorem dZ:∀ (a b:List UInt8),Lib.compareBytes a b<0↔bytesBefore a b=true
 |[],[]=>by simp [Lib.compareBytes,bytesBefore]
 |[],_::_=>by simp [Lib.compareBytes,bytesBefore]
 |_::_,[]=>by simp [Lib.compareBytes,bytesBefore]
 |a::ra,b::rb=>by
  have ih:=dZ ra rb;unfold Lib.compareBytes bytesBefore
  by_cases h1:a<b
  · simp [h1]
  · rw [if_neg h1]
    by_cases h2:b<a
    · rw [if_pos h2]
      have h3:¬ a=b:=fun e=>by subst e;exact h1 h2
      simp [h1,h3]
    · rw [if_neg h2]
      have h3:a=b:=UInt8.le_antisymm (UInt8.not_lt.1 h2) (UInt8.not_lt.1 h1);simp [h3,ih]
theorem eA:∀ (a b:List UInt8),Lib.compareBytes a b=0↔a=b
 |[],[]=>by simp [Lib.compareBytes]
 |[],_::_=>by simp [Lib.compareBytes]
 |_::_,[]=>by simp [Lib.compareBytes]
 |a::ra,b::rb=>by
  have ih:=eA ra rb;unfold Lib.compareBytes
  by_cases h1:a<b
  · rw [if_pos h1]
    have h3:¬ a=b:=fun e=>by subst e;exact absurd h1 (UInt8.lt_irrefl _)
    simp [h3]
  · rw [if_neg h1]
    by_cases h2:b<a
    · rw [if_pos h2]
      have h3:¬ a=b:=fun e=>by subst e;exact h1 h2
      simp [h3]
    · rw [if_neg h2]
      have h3:a=b:=UInt8.le_antisymm (UInt8.not_lt.1 h2) (UInt8.not_lt.1 h1);simp [h3,ih]
theorem eV {a b c:List UInt8} (h:bytesBefore a b=false) (k:bytesBefore b c=false):bytesBefore a c=false:=by
 rw [Bool.eq_false_iff];intro q
 by_cases e:b=c
 · subst e;rw [h] at q;cases q
 · rcases WideAt.bytes_total b c e with r|r
   · rw [k] at r;cases r
   · have:=WideShapes.bytes_trans a c b q r
     rw [h] at this;cases this
set_option maxHeartbeats 1600000 in
theorem vX {w:World} {g:Nat} {r1 r2:Int} (c0:w.cell? ⟨g,0,none⟩=some (.int .i64 r1)) (c1:w.cell? ⟨g,1,none⟩=some (.int .i64 r2)):Calls Tryz.prog 104 #[.slice (some ⟨g,0,none⟩) 2 2] w fun e w'=>e= .returned (.int .i64 (if r1=0 then r2 else r1))∧w'=w:=by
 have HIF:Hid ((r1=0→(if r1=0 then r2 else r1)=r2)∧(¬ r1=0→(if r1=0 then r2 else r1)=r1)):=⟨fun h=>if_pos h,fun h=>if_neg h⟩;generalize (if r1=0 then r2 else r1)=rr at*
 go_enter Tryz.func104,Tryz.ntmps104
 go_wp2_with fail
 go_loopw [8] (fun vi wr=>wr=w∧(vi= .int .i64 0∨(vi= .int .i64 1∧r1=0)∨(vi= .int .i64 2∧r1=0∧r2=0))) (fun vi _=>2 - (intOf vi).toNat)
 case atStart=>exact ⟨rfl,Or.inl rfl⟩
 case round=>
  obtain ⟨hww,rfl|⟨rfl,h1⟩|⟨rfl,h1,h2⟩⟩:=hrel
  · obtain rfl:w=wr:=hww.symm
    by_cases hz:r1=0
    · have HZ:=aA hz
      have hb:(r1==0)=true:=by simpa using hz
      rw [hz] at c0;clear hz hb
      go_wp2_with fail
      exact ⟨⟨trivial,Or.inr (Or.inl ⟨rfl,HZ.out⟩)⟩,by decide⟩
    · have HZ:=aA hz
      have hb:(r1==0)=false:=by simpa using hz
      clear hz
      go_wp2_with fail
      go_ret;exact ⟨aY (HIF.out.2 HZ.out).symm,rfl⟩
  · obtain rfl:w=wr:=hww.symm
    have HZ:=aA h1;clear h1
    by_cases hz:r2=0
    · have HZ2:=aA hz
      rw [hz] at c1;clear hz
      go_wp2_with fail
      exact ⟨⟨trivial,Or.inr (Or.inr ⟨rfl,HZ.out,HZ2.out⟩)⟩,by decide⟩
    · have hb:(r2==0)=false:=by simpa using hz
      clear hz
      go_wp2_with fail
      go_ret;exact ⟨aY (HIF.out.1 HZ.out).symm,rfl⟩
  · obtain rfl:w=wr:=hww.symm
    have HZ:=aA h1;have HZ2:=aA h2;clear h1 h2
    go_wp2
    go_ret;exact ⟨aY ((HIF.out.1 HZ.out).trans HZ2.out).symm,rfl⟩
end Go.Proofs.YtbhpfedjilkelaaGreatDoor
namespace Go.Proofs.YtbhpfedjilkelaaGreatDoor
open Go.RowKit
set_option maxRecDepth 100000
theorem eI (s:ByteArray) (hs:s.size≤281474976710656) (w:World):Calls Tryz.prog 78 #[.string s] w fun e w'=>e= .returned (.string s)∧Below w.heap.size w w':=by
 have HC:=aA (Tryz.stringslite_Clone s w hs)
 go_enter Tryz.func78,Tryz.ntmps78
 go_wp2_with (go_at_call 127;refine HC.out.mono ?_;rintro e w1 ⟨rfl,hb⟩;have HB:=aA hb;clear hb)
 go_ret;exact ⟨rfl,HB.out⟩
theorem tX {w:World} {g o:Nat} {L:List Sp} (h:∀ i (h:i<L.length),SpAt w g (o+i*6) L[i]) (j:Nat) (u:Value) (hj:(aQ L)[j]? =some u):w.cell? ⟨g,o+j,none⟩=some u:=by
 have hl:j<L.length*6:=by rw [←dE];exact (List.getElem?_eq_some_iff.1 hj).1
 obtain ⟨i,r,hr,rfl⟩:∃ i r,r<6∧j=i*6+r:=⟨j / 6,j % 6,by omega,by omega⟩;have hi:i<L.length:=by omega
 obtain ⟨a0,a1,a2,a3,a4,a5⟩:=h i hi;obtain ⟨b0,b1,b2,b3,b4,b5⟩:=dW L i hi;rw [←Nat.add_assoc]
 match r,hr with
 |0,_=>exact (a0.trans b0.symm).trans hj
 |1,_=>exact (a1.trans b1.symm).trans hj
 |2,_=>exact (a2.trans b2.symm).trans hj
 |3,_=>exact (a3.trans b3.symm).trans hj
 |4,_=>exact (a4.trans b4.symm).trans hj
 |5,_=>exact (a5.trans b5.symm).trans hj
theorem vY (L:List Sp):∀ u ∈ aQ L,u.oneCell'=true:=fun u hu=>by
 unfold aQ at hu;obtain ⟨s,_,hs⟩:=List.mem_flatMap.1 hu
 simp at hs
 rcases hs with rfl|rfl|rfl|rfl|rfl|rfl<;>rfl
theorem pF (w:World):(w.alloc (.cells #[] 91)).ownsRow w.heap.size 91 6 (.slice (some ⟨w.heap.size,0,none⟩) 0 0) 0 []:=
 ⟨rfl,Or.inr ⟨w.heap.size,0,#[],rfl,Nat.le_refl _,by show (w.heap.push _)[w.heap.size]? =_;rw [Array.getElem?_push,if_pos rfl],Nat.le_refl _,by decide,rfl,rfl⟩⟩
end Go.Proofs.YtbhpfedjilkelaaGreatDoor
namespace Go.Proofs.YtbhpfedjilkelaaGreatDoor
open Go.RowKit Go.Maps Go.WideMaps
set_option maxRecDepth 100000
def fC (v:Value):Option (DataW Value×List MemPlace):=some (.held v,[])
theorem hJ {v u:Value} {ps:List MemPlace} (h:fC v=some (.held u,ps)):v=u:=by
 unfold fC at h;injection h with h
 injection h with h _
 injection h
end Go.Proofs.YtbhpfedjilkelaaGreatDoor
namespace Go.Proofs.YtbhpfedjilkelaaGreatDoor
open Go.RowKit
set_option maxRecDepth 100000
theorem tY (w:World):Calls Tryz.prog 9 #[] w fun e w'=>e= .returned (.pointer (some ⟨w.heap.size+1,0,none⟩))∧w'=(w.alloc (.map #[] 0)).alloc (.cells #[.map (some w.heap.size)] 83):=by
 have hmm:= @run_makeMap Tryz.prog
 go_enter Tryz.func9,Tryz.ntmps9
 go_wp2
 go_ret;exact ⟨rfl,rfl⟩
end Go.Proofs.YtbhpfedjilkelaaGreatDoor
namespace Go.Proofs.YtbhpfedjilkelaaGreatDoor.Sc
open Go.RowKit
set_option maxRecDepth 100000
def ltB (b:UInt8):Bool:=decide (97≤b.toNat)&&decide (b.toNat≤122)
def dgB (b:UInt8):Bool:=decide (48≤b.toNat)&&decide (b.toNat≤57)
def nmB (b:UInt8):Bool:=ltB b||dgB b||decide (b.toNat=45)
theorem gB (b:UInt8) (w:World):Calls Tryz.prog 211 #[.int .u8 (b.toNat:Int)] w fun e w'=>e= .returned (.bool (ltB b))∧w'=w:=by
 go_enter Tryz.func211,Tryz.ntmps211
 go_wp2
 all_goals
  go_ret;refine ⟨aC ?_,rfl⟩;rw [Bool.eq_iff_iff];simp [ltB];omega
theorem pG (b:UInt8) (w:World):Calls Tryz.prog 212 #[.int .u8 (b.toNat:Int)] w fun e w'=>e= .returned (.bool (dgB b))∧w'=w:=by
 go_enter Tryz.func212,Tryz.ntmps212
 go_wp2
 all_goals
  go_ret;refine ⟨aC ?_,rfl⟩;rw [Bool.eq_iff_iff];simp [dgB];omega
def rX:Bs→Bool
 |[]=>false
 |b::_=>ltB b
def bD (t:Bs):Bool:=rX t&&t.all nmB&&decide (t.length≤16)
theorem kJ {p:ByteArray}:p.toList.isEmpty=p.data.toList.isEmpty:=by rw [ByteArray.toList_eq]
theorem kK {t:Bs} (h:t.isEmpty=true):bD t=false:=by cases t<;>simp_all [bD,rX]
theorem tZ {s:ByteArray} (h:0<s.size):rX s.data.toList=ltB s[0]:=by
 have:s.data.toList=s[0]::s.data.toList.drop 1:=by
  have:=List.drop_eq_getElem_cons (l:=s.data.toList) (i:=0) (by rw [aR];exact h)
  rw [List.drop_zero] at this;exact this
 rw [this];rfl
theorem rY {s:ByteArray} (h:s.toList.isEmpty=false):0<s.size:=by
 rw [kJ] at h;rw [←aR];cases hs:s.data.toList with
 |nil=>rw [hs] at h;cases h
 |cons _ _=>simp
theorem uA {s:ByteArray} {k:Nat} (hk:k<s.size) {f:UInt8→Bool} (h:f s[k]=false):s.data.toList.all f=false:=by
 rw [Bool.eq_false_iff];intro ha;rw [List.all_eq_true] at ha
 have:=ha s[k] (List.getElem_mem (l:=s.data.toList) (n:=k) (by rw [aR];exact hk))
 rw [h] at this;cases this
theorem gC {s:ByteArray} {k:Nat} (hk:k<s.size) {f:UInt8→Bool} (h:(s.data.toList.take k).all f=true) (hb:f s[k]=true):(s.data.toList.take (k+1)).all f=true:=by
 rw [List.take_succ_eq_append_getElem (by rw [aR];exact hk),List.all_append,h];simp only [List.all_cons,List.all_nil,Bool.and_true,Bool.true_and];exact hb
theorem uB {s:ByteArray} {f:UInt8→Bool} (h:(s.data.toList.take s.size).all f=true):s.data.toList.all f=true:=by
 rw [List.take_of_length_le (by rw [aR];exact Nat.le_refl _)] at h;exact h
set_option maxHeartbeats 3200000 in
theorem gD (s:ByteArray) (w:World):Calls Tryz.prog 162 #[.string s] w fun e w'=>e= .returned (.bool (bD s.data.toList))∧w'=w:=by
 cases he:s.toList.isEmpty
 · have h0:=rY he
   by_cases h16:s.size≤16
   · have HH:=aA (tZ h0)
     have HL:=aA (gB s[0]);cases hl:ltB s[0]
     · have HR:Hid (bD s.data.toList=false):=by unfold Hid bD;rw [HH.out,hl];rfl
       rw [hl] at HL;clear hl
       go_enter Tryz.func162,Tryz.ntmps162
       go_wp2_with (go_at_call 211;refine (HL.out _).mono ?_;rintro e w1 ⟨rfl,hw1⟩;subst hw1)
       go_ret;exact ⟨aC HR.out.symm,rfl⟩
     · rw [hl] at HL HH
       clear hl;have HLT:Hid (∀ b:UInt8,∀ w1,Calls Tryz.prog 211 #[.int .u8 (b.toNat:Int)] w1 fun e w'=>e= .returned (.bool (ltB b))∧w'=w1):=gB;have HDG:Hid (∀ b:UInt8,∀ w1,Calls Tryz.prog 212 #[.int .u8 (b.toNat:Int)] w1 fun e w'=>e= .returned (.bool (dgB b))∧w'=w1):=pG
       go_enter Tryz.func162,Tryz.ntmps162
       go_wp2_with (go_at_call 211;refine (HL.out _).mono ?_;rintro e w1 ⟨rfl,hw1⟩;subst hw1;clear HL)
       go_loop [19] (fun i=>∃ k:Nat,k≤s.size∧i= .int .i64 k∧(s.data.toList.take k).all nmB=true) (fun i=>s.size - (intOf i).toNat)
       case atStart=>exact ⟨0,Nat.zero_le _,rfl,rfl⟩
       case round=>
        obtain ⟨k,hk,rfl,hal⟩:=hrel;have HA:=aA hal;clear hal
        by_cases hlt:k<s.size
        · have HLk:=aA (HLT.out s[k])
          have HDk:=aA (HDG.out s[k]);cases h1:ltB s[k]
          · cases h2:dgB s[k]
            · by_cases h3:s[k].toNat=45
              · have hn:nmB s[k]=true:=by unfold nmB;rw [h1,h2,decide_eq_true h3];rfl
                have HA2:=aA (gC hlt HA.out hn);have e3:((s[k].toNat:Int)==45)=true:=by rw [beq_iff_eq];omega
                rw [h1] at HLk;rw [h2] at HDk;clear h1 h2 h3 hn
                go_wp2_with (first|(go_at_call 211;refine (HLk.out _).mono ?_;rintro e w1 ⟨rfl,hw1⟩;subst hw1)|(go_at_call 212;refine (HDk.out _).mono ?_;rintro e w1 ⟨rfl,hw1⟩;subst hw1))
                exact ⟨⟨k+1,by omega,by go_num,HA2.out⟩,by simp [intOf];omega⟩
              · have hn:nmB s[k]=false:=by unfold nmB;rw [h1,h2,decide_eq_false h3];rfl
                have HR:Hid (bD s.data.toList=false):=by unfold Hid bD;rw [uA hlt hn];simp
                have e3:((s[k].toNat:Int)==45)=false:=by rw [beq_eq_false_iff_ne];omega
                rw [h1] at HLk;rw [h2] at HDk;clear h1 h2 h3 hn
                go_wp2_with (first|(go_at_call 211;refine (HLk.out _).mono ?_;rintro e w1 ⟨rfl,hw1⟩;subst hw1)|(go_at_call 212;refine (HDk.out _).mono ?_;rintro e w1 ⟨rfl,hw1⟩;subst hw1))
                go_ret;exact ⟨aC HR.out.symm,rfl⟩
            · have hn:nmB s[k]=true:=by unfold nmB;rw [h1,h2];rfl
              have HA2:=aA (gC hlt HA.out hn);rw [h1] at HLk;rw [h2] at HDk;clear h1 h2 hn
              go_wp2_with (first|(go_at_call 211;refine (HLk.out _).mono ?_;rintro e w1 ⟨rfl,hw1⟩;subst hw1)|(go_at_call 212;refine (HDk.out _).mono ?_;rintro e w1 ⟨rfl,hw1⟩;subst hw1))
              exact ⟨⟨k+1,by omega,by go_num,HA2.out⟩,by simp [intOf];omega⟩
          · have hn:nmB s[k]=true:=by unfold nmB;rw [h1];rfl
            have HA2:=aA (gC hlt HA.out hn);rw [h1] at HLk;clear h1 hn
            go_wp2_with (go_at_call 211;refine (HLk.out _).mono ?_;rintro e w1 ⟨rfl,hw1⟩;subst hw1)
            exact ⟨⟨k+1,by omega,by go_num,HA2.out⟩,by simp [intOf];omega⟩
        · have hke:k=s.size:=by omega
          subst hke;have HR:Hid (bD s.data.toList=true):=by unfold Hid bD;rw [HH.out,uB HA.out,aR,decide_eq_true h16];rfl
          go_wp2
          go_ret;exact ⟨aC HR.out.symm,rfl⟩
   · have HR:Hid (bD s.data.toList=false):=by unfold Hid bD;rw [aR,decide_eq_false h16];simp
     go_enter Tryz.func162,Tryz.ntmps162
     go_wp2
     go_ret;exact ⟨aC HR.out.symm,rfl⟩
 · have HR:Hid (bD s.data.toList=false):=kK (by rw [←kJ];exact he)
   go_enter Tryz.func162,Tryz.ntmps162
   go_wp2
   go_ret;exact ⟨aC HR.out.symm,rfl⟩
end Go.Proofs.YtbhpfedjilkelaaGreatDoor.Sc
namespace Go.Proofs.YtbhpfedjilkelaaGreatDoor
open Go.RowKit
set_option maxRecDepth 100000
def ltS (s t:ByteArray):Bool:=Op.bytesLess s.toList t.toList
def bL (q:Option ByteArray) (s:ByteArray):Bool:=Sc.bD s.data.toList&&(match q with
 |none=>true
 |some p=>ltS p s)
def bH (L:List Sp):Bool:=decide (0<L.length)&&cW L
def cI:Option ByteArray→List Dp→Bool
 |_,[]=>true
 |q,d::r=>bL q d.nm&&bH d.rg&&cI (some d.nm) r
def bB (L:List Dp):Bool:=decide (L.length≤16)&&cI none L
def cT (L:List Dp):Option ByteArray:=L.getLast?.map (·.nm)
theorem DepsAt.len {w:World} {v:Value} {L:List Dp} (h:DepsAt w v L):∃ ad cap,v= .slice ad L.length cap∧L.length≤cap:=by
 obtain ⟨ad,cap,rfl,h,_⟩:=h;exact ⟨ad,cap,rfl,h⟩
theorem iW {v:Value} {L:List Sp} {w:World} (h:SpansAt w v L):
 Calls Tryz.prog 232 #[v] w fun e w'=>e= .returned (.bool (bH L))∧Below w.heap.size w w':=by
 have HM:=aA (jT h);obtain ⟨ad,cap,rfl⟩:=h.sl;clear h
 by_cases h0:0<L.length
 · have HR:Hid (bH L=cW L):=by unfold Hid bH;simp [h0]
   go_enter Tryz.func232,Tryz.ntmps232
   go_wp2_with (go_at_call 96;refine HM.out.mono ?_;rintro e w1 ⟨rfl,ok⟩)
   go_ret;exact ⟨aC HR.out.symm,ok⟩
 · have HR:Hid (bH L=false):=by unfold Hid bH;simp [h0]
   go_enter Tryz.func232,Tryz.ntmps232
   go_wp2
   go_ret;exact ⟨aC HR.out.symm,Below.refl _ _⟩
theorem gV {va:Value} {A:List Dp} {w:World} (h:DepsAt w va A) (hl:A.length≤1000000000000) (s:ByteArray):
 Calls Tryz.prog 231 #[va,.string s] w fun e w'=>e= .returned (.bool (bL (cT A) s))∧w'=w:=by
 have HN:Hid (Calls Tryz.prog 162 #[.string s] w fun e w'=>e= .returned (.bool (Sc.bD s.data.toList))∧w'=w):=Sc.gD s w;cases hn:Sc.bD s.data.toList
 · have HR:Hid (bL (cT A) s=false):=by unfold Hid bL;rw [hn];rfl
   rw [hn] at HN;obtain ⟨ad,cap,rfl⟩:=h.sl;clear h
   go_enter Tryz.func231,Tryz.ntmps231
   go_wp2_with (go_at_call 162;refine HN.out.mono ?_;rintro e w1 ⟨rfl,rfl⟩)
   go_ret;exact ⟨aC HR.out.symm,rfl⟩
 · rw [hn] at HN
   rcases List.eq_nil_or_concat A with rfl|⟨B,d,rfl⟩
   · have HR:Hid (bL (cT []) s=true):=by unfold Hid bL;rw [hn];rfl
     obtain ⟨ad,cap,rfl⟩:=h.sl;clear h
     go_enter Tryz.func231,Tryz.ntmps231
     go_wp2_with (go_at_call 162;refine HN.out.mono ?_;rintro e w1 ⟨rfl,rfl⟩)
     go_ret;exact ⟨aC HR.out.symm,rfl⟩
   · have HR:Hid (bL (cT (B++[d])) s=Op.bytesLess d.nm.toList s.toList):=by unfold Hid bL cT;rw [hn];simp [ltS]
     rw [List.concat_eq_append] at*;obtain ⟨ad,cap,rfl,hc,hs⟩:=h
     rcases hs with hs|⟨g,o,rfl,hg,hs⟩
     · simp at hs
     · obtain ⟨u,c0,hrest⟩:=hs B.length (by simp)
       clear hrest hs;simp only [List.getElem_concat_length] at c0;have hlen:(B++[d]).length=B.length+1:=by simp
       rw [hlen] at hl hc ⊢;generalize B.length=m at*;have w1:IntKind.i64.wrap (((m+1:Nat):Int) - 1)=(m:Int):=by rw [IntKind.wrap_i64];omega
       go_enter Tryz.func231,Tryz.ntmps231
       go_wp2_with (go_at_call 162;refine HN.out.mono ?_;rintro e w1 ⟨rfl,rfl⟩)
       go_ret;exact ⟨aC HR.out.symm,rfl⟩
theorem DepsAt.take {w:World} {ad:Option Addr} {cap:Nat} {L:List Dp} (h:DepsAt w (.slice ad L.length cap) L) {k:Nat} (hk:k≤L.length):DepsAt w (.slice ad k cap) (L.take k):=by
 obtain ⟨ad',cap',e,hc,hs⟩:=h;cases e;refine ⟨ad,cap,by simp [Nat.min_eq_left hk],by simp;omega,?_⟩
 rcases hs with rfl|⟨g,o,rfl,hg,hs⟩
 · exact Or.inl (by simp)
 · refine Or.inr ⟨g,o,rfl,hg,fun i hi=> ?_⟩
   have hi':i<L.length:=by simp at hi;omega
   obtain ⟨u,hu⟩:=hs i hi';exact ⟨u,by simpa using hu⟩
theorem mD {L:List Dp} {k:Nat} (h:k<L.length):cT (L.take (k+1))=some L[k].nm:=by
 unfold cT;rw [List.take_succ_eq_append_getElem h,List.getLast?_concat];rfl
def KM (w:World) (N:Nat) (s:ByteArray) (u:Value) (d:Dp) (va:Value) (A:List Dp) (w1:World):Prop:=Below w.heap.size w w1∧BxD w1 N s u∧SpansAt w1 u d.rg∧DepsAt w1 va A
theorem vZ (w:World) (N:Nat) (s:ByteArray) (u:Value) (d:Dp) (va:Value) (A:List Dp):KeepP (KM w N s u d va A):=(aO w).and ((tU _ _ _).and ((oM _ _).and (rS _ _)))
set_option maxHeartbeats 3200000 in
theorem iX (L:List Dp) (hlen:L.length≤16) (g o cap:Nat) (w:World) (h:DepsAt w (.slice (some ⟨g,o,none⟩) L.length cap) L) (hs:∀ i (h:i<L.length),∃ u,DpIn w g (o+i*2) L[i] u):
 Calls Tryz.prog 197 #[.slice (some ⟨g,o,none⟩) L.length cap] w fun e w'=>e= .returned (.bool (bB L))∧Below w.heap.size w w':=by
 have HL:Hid (∀ w1,Below w.heap.size w w1→∀ i (h:i<L.length),∃ u,DpIn w1 g (o+i*2) L[i] u):=fun w1 hb i hi=>(hs i hi).imp fun u h=>h.below hb
 have HD:Hid (∀ w1,Below w.heap.size w w1→∀ k,k≤L.length→DepsAt w1 (.slice (some ⟨g,o,none⟩) k cap) (L.take k)):=fun w1 hb k hk=>(h.below hb).take hk
 have HT:Hid (bB L=cI none L):=by unfold Hid bB;simp [hlen]
 have hcap:L.length≤cap:=by obtain ⟨_,_,e,hc,_⟩:=h;cases e;exact hc
 have h16:decide ((16:Int)<(L.length:Int))=false:=decide_eq_false (by omega);clear h hs
 go_enter Tryz.func197,Tryz.ntmps197
 go_wp2_with fail
 go_loopw [10] (fun i wr=>∃ k:Nat,k≤L.length∧i= .int .i64 k∧Below w.heap.size w wr∧cI none L=cI (cT (L.take k)) (L.drop k)) (fun i _=>L.length - (intOf i).toNat)
 case atStart=>exact ⟨0,Nat.zero_le _,rfl,Below.refl _ _,rfl⟩
 case round=>
  obtain ⟨k,hk,rfl,hb,hall⟩:=hrel;have HALL:=aA hall;have HB:=aA hb;clear hall
  by_cases hlt:k<L.length
  · obtain ⟨u,c0,c1,⟨⟨hu,_⟩,_⟩,cg⟩:=HL.out wr hb k hlt
    have hd:=HD.out wr hb k hk;have hkc:(k:Int)≤(cap:Int):=by omega
    have hc0:¬ (cap=0):=by omega
    obtain ⟨ad,uc,rfl⟩:=hu.sl;have hdr:L.drop k=L[k]::L.drop (k+1):=List.drop_eq_getElem_cons hlt
    have HST:Hid (cI none L=(bL (cT (L.take k)) L[k].nm&&bH L[k].rg&&cI (cT (L.take (k+1))) (L.drop (k+1)))):=by
     unfold Hid;rw [HALL.out,hdr,mD hlt];rfl
    have HO:Hid (KM w wr.heap.size L[k].nm (.slice ad L[k].rg.length uc) L[k] (.slice (some ⟨g,o,none⟩) k cap) (L.take k) (wr.alloc (.cells #[.string L[k].nm,.slice ad L[k].rg.length uc] 89))):=⟨aB hb (aD _ _),BxD.new rfl _ _,hu.below (aD _ _),hd.below (aD _ _)⟩;have HK:Hid (KeepP (KM w wr.heap.size L[k].nm (.slice ad L[k].rg.length uc) L[k] (.slice (some ⟨g,o,none⟩) k cap) (L.take k))):=vZ _ _ _ _ _ _ _;have HF:Hid (∀ w1,KM w wr.heap.size L[k].nm (.slice ad L[k].rg.length uc) L[k] (.slice (some ⟨g,o,none⟩) k cap) (L.take k) w1→Calls Tryz.prog 231 #[.slice (some ⟨g,o,none⟩) k cap,.string L[k].nm] w1 fun e w'=>e= .returned (.bool (bL (cT (L.take k)) L[k].nm))∧Below w1.heap.size w1 w'):=fun w1 hk1=>(gV hk1.2.2.2 (by simp;omega) _).mono fun e w' ⟨h1,h2⟩=>⟨h1,by rw [h2];exact Below.refl _ _⟩
    have HG:Hid (∀ w1,KM w wr.heap.size L[k].nm (.slice ad L[k].rg.length uc) L[k] (.slice (some ⟨g,o,none⟩) k cap) (L.take k) w1→Calls Tryz.prog 232 #[.slice ad L[k].rg.length uc] w1 fun e w'=>e= .returned (.bool (bH L[k].rg))∧Below w1.heap.size w1 w'):=fun w1 hk1=>iW hk1.2.2.1
    clear hu hd hdr HALL hb;generalize bL (cT (L.take k)) L[k].nm=bf at*;generalize bH L[k].rg=bg at*;generalize L[k].rg.length=n at*;generalize L[k].nm=s at*;generalize L[k]=d at*;cases bf
    · have HR:Hid (bB L=false):=by unfold Hid;rw [HT.out,HST.out];rfl
      clear HST HG
      go_wp2_with fail
      refine bE HK (by kernel_rfl) (by kernel_rfl) (by first|exact HO.out|exact HK.out.drew HO.out) ?_;intro C HIN HOUT;clear HO
      repeat
       (with_reducible refine wpQuiet_step (fun K hK=> ?_)
        go_simp
        first
         |(refine hK _ ?_;clear hK K)
         |(apply Exists.intro;refine ⟨fun w1 hC=> ?_,hK _ ?_⟩;(focus ((first|(go_at_call 231;with_reducible exact dD HIN HOUT HK HF.out w1 hC)|(exact rfl)|(obtain ⟨hb1,⟨k0,k1,k2⟩,hs1,hd1⟩:=HOUT.out w1 hC;clear hC;go_simp;first|done|exact rfl));done));clear hK K))
      refine wpQuiet_nil ?_;intro wn hC;have HO:=aA (HOUT.out _ hC);clear hC HIN HOUT C;obtain ⟨hb1,⟨k0,k1,k2⟩,hs1,hd1⟩:=HO.out
      go_wp2
      go_ret;exact ⟨aC HR.out.symm,HO.out.1⟩
    · cases bg
      · have HR:Hid (bB L=false):=by unfold Hid;rw [HT.out,HST.out];rfl
        clear HST
        go_wp2_with fail
        refine bE HK (by kernel_rfl) (by kernel_rfl) (by first|exact HO.out|exact HK.out.drew HO.out) ?_;intro C HIN HOUT;clear HO
        repeat
         (with_reducible refine wpQuiet_step (fun K hK=> ?_)
          go_simp
          first
           |(refine hK _ ?_;clear hK K)
           |(apply Exists.intro;refine ⟨fun w1 hC=> ?_,hK _ ?_⟩;(focus ((first|(go_at_call 231;with_reducible exact dD HIN HOUT HK HF.out w1 hC)|(go_at_call 232;with_reducible exact dD HIN HOUT HK HG.out w1 hC)|(exact rfl)|(obtain ⟨hb1,⟨k0,k1,k2⟩,hs1,hd1⟩:=HOUT.out w1 hC;clear hC;go_simp;first|done|exact rfl));done));clear hK K))
        refine wpQuiet_nil ?_;intro wn hC;have HO:=aA (HOUT.out _ hC);clear hC HIN HOUT C;obtain ⟨hb1,⟨k0,k1,k2⟩,hs1,hd1⟩:=HO.out
        go_wp2
        go_ret;exact ⟨aC HR.out.symm,HO.out.1⟩
      · have HR:Hid (cI none L=cI (cT (L.take (k+1))) (L.drop (k+1))):=by unfold Hid;rw [HST.out];rfl
        clear HST
        go_wp2_with fail
        refine bE HK (by kernel_rfl) (by kernel_rfl) (by first|exact HO.out|exact HK.out.drew HO.out) ?_;intro C HIN HOUT;clear HO
        repeat
         (with_reducible refine wpQuiet_step (fun K hK=> ?_)
          go_simp
          first
           |(refine hK _ ?_;clear hK K)
           |(apply Exists.intro;refine ⟨fun w1 hC=> ?_,hK _ ?_⟩;(focus ((first|(go_at_call 231;with_reducible exact dD HIN HOUT HK HF.out w1 hC)|(go_at_call 232;with_reducible exact dD HIN HOUT HK HG.out w1 hC)|(exact rfl)|(obtain ⟨hb1,⟨k0,k1,k2⟩,hs1,hd1⟩:=HOUT.out w1 hC;clear hC;go_simp;first|done|exact rfl));done));clear hK K))
        refine wpQuiet_nil ?_;intro wn hC;have HO:=aA (HOUT.out _ hC);clear hC HIN HOUT C;obtain ⟨hb1,⟨k0,k1,k2⟩,hs1,hd1⟩:=HO.out
        go_wp2
        exact ⟨⟨k+1,by omega,by go_num,HO.out.1,HR.out⟩,by simp [intOf];omega⟩
  · have hke:k=L.length:=by omega
    subst hke;have HR:Hid (bB L=true):=by unfold Hid;rw [HT.out,HALL.out];simp [cI]
    clear hb
    go_wp2
    go_ret;exact ⟨aC HR.out.symm,HB.out⟩
theorem iY (ad:Option Addr) (n cap:Nat) (h:16<n) (w:World):
 Calls Tryz.prog 197 #[.slice ad n cap] w fun e w'=>e= .returned (.bool false)∧Below w.heap.size w w':=by
 have hn:(16:Int)<(n:Int):=by omega
 go_enter Tryz.func197,Tryz.ntmps197
 go_wp2
 go_ret;exact ⟨rfl,Below.refl _ _⟩
theorem kL (ad:Option Addr) (cap:Nat) (w:World):
 Calls Tryz.prog 197 #[.slice ad 0 cap] w fun e w'=>e= .returned (.bool true)∧Below w.heap.size w w':=by
 go_enter Tryz.func197,Tryz.ntmps197
 go_wp2_with fail
 go_loop [10] (fun i=>i= .int .i64 0) (fun _=>0)
 case atStart=>rfl
 case round=>
  subst hrel
  go_wp2
  go_ret;exact ⟨rfl,Below.refl _ _⟩
theorem cJ {v:Value} {L:List Dp} {w:World} (h:DepsAt w v L):
 Calls Tryz.prog 197 #[v] w fun e w'=>e= .returned (.bool (bB L))∧Below w.heap.size w w':=by
 have h':=h;obtain ⟨ad,cap,rfl,hc,hs⟩:=h'
 by_cases h16:L.length≤16
 · rcases hs with rfl|⟨g,o,rfl,hg,hs⟩
   · exact kL _ _ w
   · exact iX L h16 g o cap w h hs
 · have:bB L=false:=by unfold bB;simp [h16]
   rw [this];exact iY _ _ _ (by omega) w
end Go.Proofs.YtbhpfedjilkelaaGreatDoor
namespace Go.Proofs.YtbhpfedjilkelaaGreatDoor
open Go.RowKit Go.Maps Go.WideMaps Go.WideElems
set_option maxRecDepth 100000
def eJ (s:ByteArray):Lit:= .string s.data.toList
theorem gE {s t:ByteArray} (h:eJ s=eJ t):s=t:=by
 unfold eJ at h;injection h with h
 exact bG (by rw [ByteArray.toList_eq,ByteArray.toList_eq,h])
theorem gF (s:ByteArray):WideAt.IsKeyLit (eJ s):=by unfold eJ WideAt.IsKeyLit;trivial
theorem eB:Keyed Tryz.prog 9:=string_keyed Tryz.underlying9
theorem mE {s:ByteArray} (hs:s.size≤maxLen):keyOf Tryz.prog 9 (.string s)=some (eJ s):=keyOf_string_mk Tryz.underlying9 hs
theorem eK (w:World):(zeroValue 3).run Tryz.prog w= .ok (.int .i64 0) w:=by kernel_rfl
def CntD (D:DataW Unit) (done:List ByteArray):Prop:=IsMap D∧∀ s:ByteArray,(s ∈ done→D.atKey (eJ s) (.lit (.int .i64 0))= .lit (.int .i64 1))∧(s ∉ done→D.atKey (eJ s) (.lit (.int .i64 0))= .lit (.int .i64 0))
theorem CntD.nil:CntD (.map []) []:=⟨⟨[],rfl⟩,fun _=>⟨fun h=>(by cases h),fun _=>rfl⟩⟩
theorem pH {D:DataW Unit} (h:IsMap D) (k:Lit) (d:DataW Unit):IsMap (D.put k d):=by
 obtain ⟨es,rfl⟩:=h;exact ⟨_,rfl⟩
theorem CntD.put {D:DataW Unit} {done:List ByteArray} (h:CntD D done) {s:ByteArray}:CntD (D.put (eJ s) (.lit (.int .i64 1))) (done++[s]):=by
 refine ⟨pH h.1 _ _,fun t=> ?_⟩
 by_cases e:t=s
 · subst e
   rw [atKey_put_same h.1 (gF t)];exact ⟨fun _=>rfl,fun hn=>absurd (by simp) hn⟩
 · rw [atKey_put_other fun k=>e (gE k)]
   exact ⟨fun hm=>(h.2 t).1 (by simpa [e] using hm),fun hn=>(h.2 t).2 (by simpa [e] using hn)⟩
def nY (w:World) (g o:Nat) (Ls:List (List Dp)):Prop:=g<w.heap.size∧∀ k (h:k<Ls.length),∃ u,w.cell? ⟨g,o+k,none⟩=some u∧DepsAt w u Ls[k]
def cL (Ls:List (List Dp)):List ByteArray:=Ls.flatten.map Dp.nm
noncomputable def dI (Ls:List (List Dp)):Bool:= @decide ((cL Ls).Nodup) (Classical.propDecidable _)
theorem uC {Ls:List (List Dp)} {done rest:List ByteArray} {s:ByteArray} (h:cL Ls=done++s::rest) (hs:s ∈ done):dI Ls=false:=by
 unfold dI;refine @decide_eq_false _ (Classical.propDecidable _) fun hn=> ?_
 rw [h,List.nodup_append] at hn;exact hn.2.2 s hs s List.mem_cons_self rfl
theorem kM {Ls:List (List Dp)} (h:(cL Ls).Nodup):dI Ls=true:=by unfold dI;exact @decide_eq_true _ (Classical.propDecidable _) h
theorem mF {l:List ByteArray} {s:ByteArray} (h:l.Nodup) (hs:s ∉ l):(l++[s]).Nodup:=by
 rw [List.nodup_append];refine ⟨h,by simp,?_⟩;intro a ha b hb e;rw [List.mem_singleton] at hb;subst hb e;exact hs ha
def gG (L:List Dp):Prop:=L.length≤16∧∀ d ∈ L,d.nm.size≤16
theorem dS {L:List Dp} (h:bB L=true):gG L:=by
 unfold bB at h;rw [Bool.and_eq_true,decide_eq_true_eq] at h;refine ⟨h.1,?_⟩
 have:∀ (M:List Dp) (q:Option ByteArray),cI q M=true→∀ d ∈ M,d.nm.size≤16:=by
  intro M
  induction M with
  |nil=>intro q _ d hd;cases hd
  |cons e M ih=>
   intro q hq d hd;rw [cI,Bool.and_eq_true,Bool.and_eq_true] at hq
   rcases List.mem_cons.1 hd with rfl|hd
   · have:=hq.1.1
     unfold bL at this;rw [Bool.and_eq_true] at this
     have:=this.1
     unfold Sc.bD at this;rw [Bool.and_eq_true,decide_eq_true_eq,aR] at this;exact this.2
   · exact ih _ hq.2 d hd
 exact this L none h.2
def KO (w:World) (M n:Nat) (D:DataW Unit) (w1:World):Prop:=Below w.heap.size w w1∧w1.ownsMap Tryz.prog 9 (plainElem Tryz.prog 3) M n D
theorem KO.alloc {w:World} {M n:Nat} {D:DataW Unit} {w1:World} (h:KO w M n D w1) (o:Obj):KO w M n D (w1.alloc o):=⟨aB h.1 (aD _ _),h.2.alloc o⟩
def wW (w:World) (Ls:List (List Dp)) (L T:List Dp) (K:Nat) (j:Value) (wq:World):Prop:=∃ (m n:Nat) (D:DataW Unit) (done:List ByteArray),m≤L.length∧j= .int .i64 m∧n≤16*K+m∧KO w w.heap.size n D wq∧CntD D done∧done.Nodup∧cL Ls=done++(L.drop m++T).map Dp.nm
set_option maxHeartbeats 6400000 in
theorem rZ {Ls:List (List Dp)} {g o cap:Nat} {w:World} (h:nY w g o Ls) (hs:∀ L ∈ Ls,gG L) (hln:Ls.length≤16):
 Calls Tryz.prog 198 #[.slice (some ⟨g,o,none⟩) Ls.length cap] w fun e w'=>e= .returned (.bool (dI Ls))∧Below w.heap.size w w':=by
 have HP:Hid (∀ k (h:k<Ls.length),∃ u,∀ w1,Below w.heap.size w w1→w1.cell? ⟨g,o+k,none⟩=some u∧DepsAt w1 u Ls[k]):=fun k hk=>(h.2 k hk).imp fun u hu w1 hb=>⟨(hb.cell (p:=⟨g,o+k,none⟩) h.1).trans hu.1,hu.2.below hb⟩
 have HS:=aA hs;clear h hs;have hmm:= @run_makeMap Tryz.prog;have HM0:Hid (KO w w.heap.size 0 (.map []) (w.alloc (.map #[] 0))):=⟨aD _ _,World.ownsMap_made (H:=Unit) w Tryz.prog 9 (plainElem Tryz.prog 3)⟩
 go_enter Tryz.func198,Tryz.ntmps198
 go_wp2_with fail
 go_loopw [11] (fun i wr=>∃ (k n:Nat) (D:DataW Unit) (done:List ByteArray),k≤Ls.length∧i= .int .i64 k∧n≤16*k∧KO w w.heap.size n D wr∧CntD D done∧done.Nodup∧cL Ls=done++(Ls.drop k).flatten.map Dp.nm) (fun i _=>Ls.length - (intOf i).toNat)
 case atStart=>exact ⟨0,0,.map [],[],Nat.zero_le _,rfl,Nat.le_refl _,HM0.out,CntD.nil,List.nodup_nil,rfl⟩
 case round=>
  obtain ⟨k,n,D,done,hk,rfl,hn,hko,hcn,hnd,hnm⟩:=hrel
  by_cases hkl:k<Ls.length
  · obtain ⟨u,HU⟩:=HP.out k hkl
    obtain ⟨cu,hdu⟩:=HU wr hko.1;obtain ⟨AA,CC,rfl,hzc⟩:=hdu.len;have HU:=aA HU;clear hdu;have HSL:=aA (HS.out _ (List.getElem_mem hkl));have HKO0:=aA hko;have HCN0:=aA hcn;have HND0:=aA hnd
    have HNM0:Hid (cL Ls=done++(Ls[k]++(Ls.drop (k+1)).flatten).map Dp.nm):=by
     unfold Hid;rw [hnm,List.drop_eq_getElem_cons hkl,List.flatten_cons]
    have l1:=HSL.out.1;clear hko hcn hnd hnm;generalize Ls[k]=L at*;generalize hT:(Ls.drop (k+1)).flatten=T at*;have HT:=aA hT;clear hT
    go_wp2_with fail
    go_loopw [17] (fun j wq=>wW w Ls L T k j wq) (fun j _=>L.length - (intOf j).toNat)
    case atStart=>exact ⟨0,n,D,done,Nat.zero_le _,rfl,by omega,HKO0.out,HCN0.out,HND0.out,HNM0.out⟩
    case round=>
     clear HKO0 HCN0 HND0 HNM0 cu;obtain ⟨m,n,D,done,hm,rfl,hn,hko,hcn,hnd,hnm⟩:=hrel
     by_cases hlt:m<L.length
     · obtain ⟨ad,cap,e,_,hcs⟩:=(HU.out wr hko.1).2
       cases e
       obtain ⟨g,o,rfl,hg,hcs⟩:∃ g o,AA=some ⟨g,o,none⟩∧g<wr.heap.size∧∀ i (h:i<L.length),∃ u,DpIn wr g (o+i*2) L[i] u:=by
        rcases hcs with h|h
        · rw [h] at hlt;simp at hlt
        · exact h
       obtain ⟨u,p0,p1,⟨⟨hu,_⟩,_⟩,p3⟩:=hcs m hlt;obtain ⟨au,cu,rfl⟩:=hu.sl;have hnz:L[m].nm.size≤16:=HSL.out.2 _ (List.getElem_mem hlt)
       have HNM1:Hid (cL Ls=done++L[m].nm::(L.drop (m+1)++T).map Dp.nm):=by
        unfold Hid;rw [hnm,List.drop_eq_getElem_cons hlt];rfl
       clear hcs hu hnm;generalize L[m].rg.length=lu at*;generalize L[m].nm=s at*;have hkey:keyOf Tryz.prog 9 (.string s)=some (eJ s):=mE (by unfold maxLen;omega);have HKA:Hid (KO w w.heap.size n D (wr.alloc (.cells #[.string s,.slice au lu cu] 89))):=hko.alloc _;obtain ⟨c,hrun,hat,_⟩:=HKA.out.2.lookup_int eB Tryz.underlying210 Tryz.underlying3 (eK _) hkey;have hBX:Hid (BxD (wr.alloc (.cells #[.string s,.slice au lu cu] 89)) wr.heap.size s (.slice au lu cu)):=BxD.new rfl _ _;have hMw:w.heap.size<wr.heap.size:=hko.2.lt;have hBw:=hko.1.size
       by_cases hin:s ∈ done
       · rw [(hcn.2 s).1 hin] at hat
         obtain rfl:c=1:=by injection hat with h1;injection h1 with _ h2;exact h2.symm
         have HR:=aA (uC HNM1.out hin);have HMP:=aA hcn.1;clear hko hcn hnd HNM1
         go_wp2_with (at_mapUpdate;refine wpList_mapUpdate_own _ rfl _ _ _ 210 rfl 9 3 eB Tryz.underlying210 _ w.heap.size n D rfl HKA.out.2 (by unfold maxLen;omega) _ _ _ rfl rfl hkey _ [] (plainElem_int (H:=Unit) Tryz.underlying3 (show (Lit.int .i64 2).wf=true by decide)) ?_;intro w5 hown5 hg5;obtain ⟨c5,hrun5,hat5,_⟩:=hown5.lookup_int eB Tryz.underlying210 Tryz.underlying3 (eK _) hkey;rw [atKey_put_same HMP.out (gF s)] at hat5;obtain rfl:c5=2:=(by injection hat5 with h1;injection h1 with _ h2;exact h2.symm);have b0:w5.cell? ⟨wr.heap.size,0,none⟩=some (.string s):=(hg5.cell_far ⟨wr.heap.size,0,none⟩ (by simp) (by simp;omega)).trans hBX.out.1;have HB5:Hid (Below w.heap.size w w5):=HKA.out.1.grown hg5 HKA.out.1.size (fun j hj=>by cases hj;omega);clear hat5)
         go_ret;exact ⟨aC HR.out.symm,HB5.out⟩
       · rw [(hcn.2 s).2 hin] at hat
         obtain rfl:c=0:=by injection hat with h1;injection h1 with _ h2;exact h2.symm
         have HCN2:Hid (CntD (D.put (eJ s) (.lit (.int .i64 1))) (done++[s])):=hcn.put;have HND2:=aA (mF hnd hin);have HNM2:Hid (cL Ls=(done++[s])++(L.drop (m+1)++T).map Dp.nm):=by unfold Hid;rw [HNM1.out];simp
         have HMP:=aA hcn.1;clear hko hcn hnd HNM1
         go_wp2_with (at_mapUpdate;refine wpList_mapUpdate_own _ rfl _ _ _ 210 rfl 9 3 eB Tryz.underlying210 _ w.heap.size n D rfl HKA.out.2 (by unfold maxLen;omega) _ _ _ rfl rfl hkey _ [] (plainElem_int (H:=Unit) Tryz.underlying3 (show (Lit.int .i64 1).wf=true by decide)) ?_;intro w5 hown5 hg5;obtain ⟨c5,hrun5,hat5,_⟩:=hown5.lookup_int eB Tryz.underlying210 Tryz.underlying3 (eK _) hkey;rw [atKey_put_same HMP.out (gF s)] at hat5;obtain rfl:c5=1:=(by injection hat5 with h1;injection h1 with _ h2;exact h2.symm);have b0:w5.cell? ⟨wr.heap.size,0,none⟩=some (.string s):=(hg5.cell_far ⟨wr.heap.size,0,none⟩ (by simp) (by simp;omega)).trans hBX.out.1;have HB5:Hid (KO w w.heap.size (n+1) (D.put (eJ s) (.lit (.int .i64 1))) w5):=⟨HKA.out.1.grown hg5 HKA.out.1.size (fun j hj=>by cases hj;omega),hown5⟩;clear hat5)
         exact ⟨⟨m+1,n+1,_,_,by omega,by go_num,by omega,HB5.out,HCN2.out,HND2.out,HNM2.out⟩,by simp [intOf];omega⟩
     · have HNM2:Hid (cL Ls=done++T.map Dp.nm):=by unfold Hid;rw [hnm,List.drop_of_length_le (by omega)];rfl
       have HKO:=aA hko;have HCN:=aA hcn;have HND:=aA hnd;clear hko hcn hnd hnm
       go_wp2
       exact ⟨⟨k+1,n,D,done,by omega,by go_num,by omega,HKO.out,HCN.out,HND.out,by rw [HT.out];exact HNM2.out⟩,by simp [intOf];omega⟩
  · have HND:Hid (dI Ls=true):=kM (by rw [hnm,List.drop_of_length_le (by omega)];simpa using hnd)
    have HKO:=aA hko;clear hko hcn hnd hnm
    go_wp2
    go_ret;exact ⟨aC HND.out.symm,HKO.out.1⟩
end Go.Proofs.YtbhpfedjilkelaaGreatDoor
namespace Go.Proofs.YtbhpfedjilkelaaGreatDoor.Sc
open Go.RowKit
set_option maxRecDepth 100000
theorem vG:(Tryz.prog.info? 173).map (·.size)=some 2:=by kernel_rfl
theorem wP:liesAt Tryz.prog Tryz.prog.depth 173 (2 / Tryz.prog.cellsOf 173) 0 173 1=true:=by kernel_rfl
theorem wQ:(Tryz.prog.info? 5).map (fun i=>(i.zero,i.size,i.bytes))=some (some (.int .u8 0),1,1):=by kernel_rfl
set_option maxHeartbeats 1600000 in
theorem mG (b:Nat) (w:World) (h0:w.cell? ⟨b,0,none⟩=some (.pointer (some ⟨b,0,none⟩))):
 Calls Tryz.prog 199 #[.pointer (some ⟨b,0,none⟩)] w fun e w'=>e= .returned (.tuple #[])∧w'=w:=by
 obtain ⟨j,hj,_⟩:=Option.map_eq_some_iff.1 vG
 go_enter Tryz.func199,Tryz.ntmps199
 go_wp2
 rw [Lib.run_neq_ptr_same w _ Tryz.underlying170 hj]
 go_wp2
 go_end0
 exact ⟨rfl,rfl⟩
set_option maxHeartbeats 1600000 in
theorem kN (b:Nat) (w:World) (h0:w.cell? ⟨b,0,none⟩=some (.pointer none)) (hsh:w.shape? b=some (173,2)) (hfz:w.frozen? ⟨b,0,none⟩=false):
 Calls Tryz.prog 199 #[.pointer (some ⟨b,0,none⟩)] w fun e w'=>e= .returned (.tuple #[])∧w'=w.setCell ⟨b,0,none⟩ (.pointer (some ⟨b,0,none⟩)):=by
 obtain ⟨j,hj,hjs⟩:=Option.map_eq_some_iff.1 vG
 go_enter Tryz.func199,Tryz.ntmps199
 go_wp2
 rw [Lib.run_to_unsafe w ⟨b,0,none⟩ Tryz.underlying170 Tryz.underlying266 hj (by rw [hjs];decide) hsh (Nat.zero_lt_succ 1)];simp only [Result.andThen];rw [Oper.upon_value]
 go_wp2
 rw [run_callFunc_extern Tryz.func233 (by kernel_rfl) (by kernel_rfl) (by kernel_rfl) (e:=Extern.AbiNoEscape.same) (by kernel_rfl),Lib.run_noEscape];simp only [Result.andThen];rw [Oper.upon_value]
 go_wp2
 rw [Lib.run_from_unsafe w ⟨b,0,none⟩ Tryz.underlying266 Tryz.underlying170 hj hsh wP];simp only [Result.andThen];rw [Oper.upon_value]
 go_wp2
 go_end0
 exact ⟨rfl,rfl⟩
def Bld (B b:Nat) (l:Bs) (w:World):Prop:=Lib.IsBuilder 173 5 B b (Lib.byteCells l) w
end Go.Proofs.YtbhpfedjilkelaaGreatDoor.Sc
namespace Go.Proofs.YtbhpfedjilkelaaGreatDoor
open Go.RowKit
set_option maxRecDepth 100000
theorem mH {A:Rg} (hl:A.length≤64):(dF A).size≤4096:=by
 cases A with
 |nil=>have:=bR 0 0 0;have z:(⟨#[60]⟩:ByteArray).size=1:=rfl;show (⟨#[60]⟩++aU 0 0 0).size≤4096;rw [aV];omega
 |cons p A=>
  show (⟨(Lib.join ((p::A).map fun p=>(spT p).data.toList) [32,124,124,32]).toArray⟩:ByteArray).size≤4096;rw [lX,List.map_cons,Lib.join_length,←List.map_cons (f:=fun p=>(spT p).data.toList)]
  have:=iO 27 ((p::A).map fun p=>(spT p).data.toList) (by
   intro x hx;obtain ⟨q,_,rfl⟩:=List.mem_map.1 hx;exact fU _ _ _ _ _ _)
  simp only [List.length_map,List.length_cons,List.length_nil] at*;omega
def FarB (b:Nat) (w w':World):Prop:=∀ N cs t fr,w.heap[N]? =some (.cells cs t fr)→t≠5→N≠b→w'.heap[N]? =some (.cells cs t fr)
theorem FarB.refl (b:Nat) (w:World):FarB b w w:=fun _ _ _ _ h _ _=>h
theorem FarB.trans {b:Nat} {w w1 w2:World} (h:FarB b w w1) (h2:FarB b w1 w2):FarB b w w2:=fun N cs t fr hh ht hn=>h2 N cs t fr (h N cs t fr hh ht hn) ht hn
theorem FarB.set {b:Nat} {w w1:World} (h:FarB b w w1) (i:Nat) (u:Value):FarB b w (w1.setCell ⟨b,i,none⟩ u):=fun N cs t fr hh ht hn=>(Below.heap_setCell _ _ _ _ hn).trans (h N cs t fr hh ht hn)
theorem FarB.below {b:Nat} {w w':World} (h:Below w.heap.size w w'):FarB b w w':=fun N _ _ _ hh _ _=>(h.block N (Array.getElem?_eq_some_iff.1 hh).1).trans hh
theorem pI {B b:Nat} {l:Sc.Bs} {w:World} (h:Sc.Bld B b l w):
 Calls Tryz.prog 199 #[.pointer (some ⟨b,0,none⟩)] w fun e w'=>e= .returned (.tuple #[])∧Lib.BuilderAt 173 5 B b (.pointer (some ⟨b,0,none⟩)) (Lib.byteCells l) w'∧Below B w w'∧FarB b w w':=by
 rcases h with h|h
 · refine (Sc.kN b w h.cell0 h.shape h.frozen0).mono ?_
   rintro e w' ⟨rfl,rfl⟩;exact ⟨rfl,h.used _,(Below.refl B w).setCell (p:=⟨b,0,none⟩) h.1 _,(FarB.refl b w).set _ _⟩
 · refine (Sc.mG b w h.cell0).mono ?_
   rintro e w' ⟨rfl,rfl⟩;exact ⟨rfl,h,Below.refl B _,FarB.refl b _⟩
set_option maxHeartbeats 1600000 in
theorem kO {B b:Nat} {l:Sc.Bs} {w:World} (s:ByteArray) (h:Sc.Bld B b l w) (hl:l.length+s.size≤140737488355328) (hB:B≤w.heap.size):
 Calls Tryz.prog 131 #[.pointer (some ⟨b,0,none⟩),.string s] w fun e w'=>e= .returned (.tuple #[.int .i64 s.size,.nilIface])∧Sc.Bld B b (l++s.data.toList) w'∧Below B w w'∧FarB b w w':=by
 obtain ⟨i0,hi,hz0,hz1,hz2⟩:=Sc.bQ Sc.wQ;have HC:=aA (pI h);have hlc:(Lib.byteCells l).length=l.length:=Lib.byteCells_length l
 go_enter Tryz.func131,Tryz.ntmps131
 go_wp2_with (go_at_call 199;refine HC.out.mono ?_)
 rintro e w1 ⟨rfl,h1,hb1,hf1⟩;obtain ⟨hBb,v,hbk,hown,hne⟩:=h1;have c0:w1.cell? ⟨b,0,none⟩=some (.pointer (some ⟨b,0,none⟩)):=by rw [Lib.cell_of_heap hbk];rfl
 have c1:w1.cell? ⟨b,1,none⟩=some v:=by rw [Lib.cell_of_heap hbk];rfl
 have hs1:=hb1.size
 go_wp2_with (at_builtin;refine Lib.wpList_append_own_string _ rfl _ _ 171 9 rfl B 5 i0 Tryz.underlying171 Tryz.underlying9 hi hz0 hz1 hz2 _ _ _ rfl hown s rfl (by unfold maxLen;omega) (by omega) (by omega) ?_)
 intro v' w2 hown' hgrow _;have hlt:b<w1.heap.size:=(Array.getElem?_eq_some_iff.1 hbk).1
 have hb2:w2.heap[b]? =some (.cells #[.pointer (some ⟨b,0,none⟩),v] 173 (0,0)):=by
  rw [hgrow.block b hlt (fun e=>hne e.symm)];exact hbk
 have HFA:Hid (FarB b w w2):=fun N cs t fr hh ht hn=>by
  have hN:=hf1 N cs t fr hh ht hn;refine (hgrow.block N (Array.getElem?_eq_some_iff.1 hN).1 (fun e=> ?_)).trans hN
  rcases hown.2 with ⟨hv,_⟩|⟨g,cap,cur,hv,_,hg,_⟩
  · rw [hv] at e;cases e
  · rw [hv] at e
    obtain rfl:N=g:=Option.some.inj e;rw [hN] at hg;injection hg with hg
    injection hg with _ hg _
    exact ht hg
 have d0:w2.cell? ⟨b,0,none⟩=some (.pointer (some ⟨b,0,none⟩)):=by rw [Lib.cell_of_heap hb2];rfl
 have d1:w2.cell? ⟨b,1,none⟩=some v:=by rw [Lib.cell_of_heap hb2];rfl
 have f1:w2.frozen? ⟨b,1,none⟩=false:=Lib.frozen_of_heap hb2 1
 obtain ⟨ao,n',cap,rfl⟩:∃ ao n' cap,v'= .slice ao n' cap:=by
  rcases hown'.2 with ⟨hv,_⟩|⟨g,cap,cur,hv,_⟩
  · exact ⟨_,_,_,hv⟩
  · exact ⟨_,_,_,hv⟩
 clear hf1
 go_wp2
 go_ret2;refine ⟨rfl,Or.inr ?_,?_,HFA.out.set _ _⟩
 · refine Lib.BuilderAt.put (T:=173) (e:=5) hBb hb2 ?_ (by decide)
   rw [Lib.byteCells_append,List.length_append,←Lib.strCells_eq,hlc]
   simpa [Lib.strCells_length] using hown'
 · exact (hb1.grown hgrow (by omega) (fun k hk=>(hown.lt k hk).1)).setCell (p:=⟨b,1,none⟩) hBb _
def hQ (x n r:ByteArray):Sc.Bs:=x.data.toList++([32]++(n.data.toList++([32]++(r.data.toList++[10]))))
theorem uD {B b:Nat} {l:Sc.Bs} {w:World} (h:Sc.Bld B b l w):Calls Tryz.prog 136 #[.pointer (some ⟨b,0,none⟩)] w fun e w'=>e= .returned (.int .i64 l.length)∧w'=w:=by
 obtain ⟨v,c1,hv⟩:∃ v,w.cell? ⟨b,1,none⟩=some v∧∃ ad cap,v= .slice ad l.length cap:=by
  rcases h with ⟨_,v,hbk,hown,_⟩|⟨_,v,hbk,hown,_⟩<;>
  · refine ⟨v,by rw [Lib.cell_of_heap hbk];rfl,?_⟩
    rcases hown.2 with ⟨hv,hn⟩|⟨g,cap,cur,hv,_⟩
    · rw [Lib.byteCells_length] at hn
      exact ⟨none,0,by rw [hv,hn]⟩
    · rw [Lib.byteCells_length] at hv
      exact ⟨_,_,hv⟩
 obtain ⟨ad,cap,rfl⟩:=hv
 go_enter Tryz.func136,Tryz.ntmps136
 go_wp2
 go_ret;exact ⟨rfl,rfl⟩
def plS (s:Sp):Int×Int:=(aI s.a s.b s.c,aI s.x s.y s.z)
theorem vH {A:Rg} (hA:RangeR A):(A.map spR).map plS=A:=by
 rw [List.map_map]
 conv=>rhs;rw [←List.map_id A]
 refine List.map_congr_left fun p hp=> ?_
 obtain ⟨h1,h2,_⟩:=hA.ok p hp;show (aI (atA p.1) (atB p.1) (atC p.1),aI (atA p.2) (atB p.2) (atC p.2))=p;have e1:=(fQ (n:=p.1) (by unfold cO;obtain ⟨a,b⟩:=h1;simp;omega)).2;have e2:=(fQ (n:=p.2) (by unfold cO;obtain ⟨a,b⟩:=h2;simp;omega)).2;rw [e1,e2]
def prS (L:List Sp):ByteArray:=dF (L.map plS)
theorem pJ {L:List Sp} {u:Value} {w:World} (h:bH L=true) (hu:SpansC w u L) (he:Env w) (hf:FL w):
 Calls Tryz.prog 201 #[u] w fun e w'=>e= .returned (.string (prS L))∧Below w.heap.size w w':=by
 unfold bH at h;rw [Bool.and_eq_true] at h;obtain ⟨A,rfl,hA,hl⟩:=iN.1 h.2;unfold prS;rw [vH hA];exact oQ hA hl hu.rg he hf
theorem kP {L:List Sp} (h:bH L=true):(prS L).size≤4096:=by
 unfold bH at h;rw [Bool.and_eq_true] at h;obtain ⟨A,rfl,hA,hl⟩:=iN.1 h.2;unfold prS;rw [vH hA];exact mH hl
def aX (x:ByteArray) (L:List Dp):Sc.Bs:=L.flatMap fun d=>hQ x d.nm (prS d.rg)
theorem mI {x:ByteArray} {L:List Dp} {k:Nat} (h:k<L.length):aX x (L.take (k+1))=aX x (L.take k)++hQ x L[k].nm (prS L[k].rg):=by
 unfold aX;rw [List.take_succ_eq_append_getElem h,List.flatMap_append]
 simp
theorem gH:∀ {L:List Dp} {q:Option ByteArray},cI q L=true→∀ d ∈ L,d.nm.size≤16∧bH d.rg=true
 |[],_,_,d,hd=>by cases hd
 |e::M,q,hq,d,hd=>by
  rw [cI,Bool.and_eq_true,Bool.and_eq_true] at hq
  rcases List.mem_cons.1 hd with rfl|hd
  · have:=hq.1.1
    unfold bL at this;rw [Bool.and_eq_true] at this
    have:=this.1
    unfold Sc.bD at this;rw [Bool.and_eq_true,decide_eq_true_eq,aR] at this;exact ⟨this.2,hq.1.2⟩
  · exact gH hq.2 d hd
theorem sA {x n r:ByteArray} (hx:x.size≤16) (hn:n.size≤16) (hr:r.size≤4096):(hQ x n r).length≤5000:=by
 unfold hQ;simp only [List.length_append,aR,List.length_cons,List.length_nil];omega
theorem eL {x:ByteArray} (hx:x.size≤16) {L:List Dp} (h:bB L=true) (k:Nat):(aX x (L.take k)).length≤80000:=by
 unfold bB at h;rw [Bool.and_eq_true,decide_eq_true_eq] at h
 have:∀ M:List Dp,(∀ d ∈ M,d.nm.size≤16∧bH d.rg=true)→(aX x M).length≤5000*M.length:=by
  intro M
  induction M with
  |nil=>intro _;simp [aX]
  |cons d M ih=>
   intro hM;have h1:=ih fun e he=>hM e (List.mem_cons_of_mem _ he)
   have h2:=sA (x:=x) hx (hM d List.mem_cons_self).1 (kP (hM d List.mem_cons_self).2)
   have:aX x (d::M)=hQ x d.nm (prS d.rg)++aX x M:=by unfold aX;simp
   rw [this,List.length_append,List.length_cons];omega
 have h2:=this (L.take k) fun d hd=>gH h.2 d (List.mem_of_mem_take hd)
 have h3:(L.take k).length≤16:=by rw [List.length_take];omega
 omega
def TW (w1:World) (l:Sc.Bs) (w':World):Prop:=Sc.Bld w1.heap.size w1.heap.size l w'∧Below w1.heap.size w1 w'
theorem pK {B b:Nat} {l:Sc.Bs} {w w':World} (h:Sc.Bld B b l w) (hb:Below w.heap.size w w'):Sc.Bld B b l w':=by
 have step:∀ p,Lib.BuilderAt 173 5 B b p (Lib.byteCells l) w→Lib.BuilderAt 173 5 B b p (Lib.byteCells l) w':=by
  rintro p ⟨hB,v,hbk,hown,hne⟩;refine ⟨hB,v,(hb.block b (Array.getElem?_eq_some_iff.1 hbk).1).trans hbk,⟨hown.1,hown.2.imp id ?_⟩,hne⟩;rintro ⟨g,cap,cur,rfl,h1,hg,h2⟩;exact ⟨g,cap,cur,rfl,h1,(hb.block g (Array.getElem?_eq_some_iff.1 hg).1).trans hg,h2⟩
 exact h.imp (step _) (step _)
theorem eC (w1:World) (l:Sc.Bs):KeepP (TW w1 l):=fun _ _ h hb=>⟨pK h.1 hb,aB h.2 hb⟩
theorem TW.new (w1:World):TW w1 [] (w1.alloc (.cells #[.pointer none,.slice none 0 0] 173)):=⟨Lib.fresh_isBuilder _ _ w1,aD _ _⟩
theorem TW.far {w1:World} {l:Sc.Bs} {w':World} (h:TW w1 l w'):w1.heap.size<w'.heap.size:=by
 rcases h.1 with h|h<;>exact h.lt
theorem TW.put {w1 wz:World} {l:Sc.Bs} (h:TW w1 l wz) (s:ByteArray) (hl:l.length≤1000000000) (hs:s.size≤1000000):
 Calls Tryz.prog 131 #[.pointer (some ⟨w1.heap.size,0,none⟩),.string s] wz fun e w'=>e= .returned (.tuple #[.int .i64 s.size,.nilIface])∧TW w1 (l++s.data.toList) w'∧FarB w1.heap.size wz w':=by
 refine (kO s h.1 (by omega) h.2.size).mono ?_;rintro e w' ⟨rfl,g1,g2,g3⟩;exact ⟨rfl,⟨g1,h.2.trans g2⟩,g3⟩
end Go.Proofs.YtbhpfedjilkelaaGreatDoor
