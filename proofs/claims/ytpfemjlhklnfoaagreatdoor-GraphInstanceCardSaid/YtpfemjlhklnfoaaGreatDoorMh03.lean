/- Sp3, Pure1, Cut1, Cut2, Fo1, Pure2, Row1, Tab1, Facts2, Ref1, Next3, Parse1, Parse3, Tx2, Pr1: their declarations that are needed, laid in one text, remarks and blanks left out. -/
import Derived.Maps.AppendAt
import Derived.Deep.AppendLies
import Derived.Test.YtpfemjlhklnfoaaGreatDoorTie
import Derived.Test.YtpfemjlhklnfoaaGreatDoorCards
import Derived.ProofKit
import Derived.OpenShut
import Derived.ChangeOld
import Derived.LaidMore
import Derived.Lay
import Derived.SevenTiedAt
import Derived.Stop.Joined
import Derived.Shelf.Vars
import Derived.Deep.Slices
import Derived.Test.YtpfemjlhklnfoaaGreatDoorShelfB
import Derived.Lib.LaidTab
import Derived.Lib.AppendIntMem
import Derived.Stop.LaidErr
import Derived.Laws.IdiomStrings
import Derived.Shelf.Strconv.AtoiAll
import Derived.Shelf.Strings.Cut
import Derived.Shelf.Strings.Split
import Derived.Shelf.Strings.IndexAnyAll
import Derived.Test.YtpfemjlhklnfoaaGreatDoorShelfC
import Derived.Lib.SplitLaws
import Derived.Test.YtpfemjlhklnfoaaGreatDoorMh02
namespace Go.Proofs.YtpfemjlhklnfoaaGreatDoor
open Go.RowKit
set_option maxRecDepth 100000
theorem mV (ad:Option Addr) (cap:Nat) (w:World):
 Calls Tryz.prog 96 #[.slice ad 0 cap] w fun e w'=>e= .returned (.bool true)∧Below w.heap.size w w':=by
 go_enter Tryz.func96,Tryz.ntmps96
 go_wp2_with fail
 go_loop [10] (fun i=>i= .int .i64 0) (fun _=>0)
 case atStart=>rfl
 case round=>
  subst hrel
  go_wp2
  go_ret;exact ⟨rfl,Below.refl _ _⟩
theorem AP (ad:Option Addr) (n cap:Nat) (w:World) (h:64<n):
 Calls Tryz.prog 96 #[.slice ad n cap] w fun e w'=>e= .returned (.bool false)∧Below w.heap.size w w':=by
 have h1:(64:Int)<(n:Int):=by omega
 go_enter Tryz.func96,Tryz.ntmps96
 go_wp2
 go_ret;exact ⟨rfl,Below.refl _ _⟩
theorem mW {w:World} {v:Value} {L:List Sp} (h:SpansAt w v L):
 Calls Tryz.prog 96 #[v] w fun e w'=>e= .returned (.bool (cJ L))∧Below w.heap.size w w':=by
 obtain ⟨ad,cap,rfl,hl⟩:=h
 by_cases h64:L.length≤64
 · rcases hl with rfl|⟨g,o,rfl,hg,hs⟩
   · exact mV ad cap w
   · exact AO L g o cap w h64 hg hs
 · have:cJ L=false:=by unfold cJ;rw [decide_eq_false h64];rfl
   rw [this];exact AP ad _ cap w (by omega)
theorem AQ (v:Value) (L:List Sp):KeepP fun w1=>SpansAt w1 v L:=fun _ _ h hb=>h.below hb
def mC (a b c:Int) (s:Sp):Bool:=decide (bR s.a s.b s.c a b c≤0)&&decide (bR a b c s.x s.y s.z≤0)
def inL (L:List Sp) (a b c:Int):Bool:=cJ L&&aN a b c&&L.any (mC a b c)
set_option maxHeartbeats 3200000 in
theorem EJ (L:List Sp) (g o cap:Nat) (p q r:Int) (w:World) (hlen:L.length≤64) (hg:g<w.heap.size) (hl:∀ i (h:i<L.length),SpAt w g (o+i*6) L[i])
 (HMay:Hid (∀ w1,Below w.heap.size w w1→Calls Tryz.prog 96 #[.slice (some ⟨g,o,none⟩) L.length cap] w1 fun e w'=>e= .returned (.bool true)∧Below w1.heap.size w1 w')) (hv:aN p q r=true):
 Calls Tryz.prog 51 #[.slice (some ⟨g,o,none⟩) L.length cap,.agg #[.int .i64 p,.int .i64 q,.int .i64 r]] w fun e w'=>e= .returned (.bool (L.any (mC p q r)))∧Below w.heap.size w w':=by
 have HL:Hid (∀ w1,Below w.heap.size w w1→∀ i (h:i<L.length),SpAt w1 g (o+i*6) L[i]):=fun w1 hb i hi=>(hl i hi).below hb hg
 have HV:Hid (∀ w1,Calls Tryz.prog 97 #[.agg #[.int .i64 p,.int .i64 q,.int .i64 r]] w1 fun e w'=>e= .returned (.bool true)∧Below w1.heap.size w1 w'):=by have:=dX p q r;rw [hv] at this;exact this
 have HO:Hid (Below w.heap.size w (w.alloc (.cells #[.int .i64 p,.int .i64 q,.int .i64 r] 31))∧BxAt (w.alloc (.cells #[.int .i64 p,.int .i64 q,.int .i64 r] 31)) ⟨w.heap.size,.int .i64 p,.int .i64 q,.int .i64 r⟩):=⟨aD _ _,(((OKs.nil w).box rfl _ _ _).one)⟩;have HK:Hid (KeepP fun w1=>Below w.heap.size w w1∧BxAt w1 ⟨w.heap.size,.int .i64 p,.int .i64 q,.int .i64 r⟩):=(aG w).and (MD _);clear hl hv
 go_enter Tryz.func51,Tryz.ntmps51
 go_wp2_with (first
  |(go_at_call 96;refine (HMay.out _ HO.out.1).mono ?_;rintro e w1 ⟨rfl,hb⟩;have HO1:=aA (HK.out _ _ HO.out hb);clear HO hb;obtain ⟨_,v0,v1,v2,v3⟩:=HO1.out)
  |(go_at_call 97;refine (HV.out _).mono ?_;rintro e w2 ⟨rfl,hb⟩;have HO2:=aA (HK.out _ _ HO1.out hb);clear HO1 hb))
 go_loopw [17] (fun i wr=>∃ k:Nat,k≤L.length∧i= .int .i64 k∧(Below w.heap.size w wr∧BxAt wr ⟨w.heap.size,.int .i64 p,.int .i64 q,.int .i64 r⟩)∧(L.take k).any (mC p q r)=false) (fun i _=>L.length - (intOf i).toNat)
 case atStart=>exact ⟨0,Nat.zero_le _,rfl,HO2.out,rfl⟩
 case round=>
  obtain ⟨k,hk,rfl,hb,hno⟩:=hrel;have HN:=aA hno;clear hno
  by_cases hlt:k<L.length
  · have hs:=HL.out wr hb.1 k hlt
    have HS:Hid ((L.take (k+1)).any (mC p q r)=mC p q r L[k]):=by
     unfold Hid;rw [List.take_succ_eq_append_getElem hlt,List.any_append,HN.out];simp
    have HS2:Hid (mC p q r L[k]=true→L.any (mC p q r)=true):=fun h=>List.any_eq_true.2 ⟨L[k],List.getElem_mem hlt,h⟩
    generalize L[k]=s at*;obtain ⟨a,b,c,x,y,z⟩:=s;have HC:Hid (∀ w1,Calls Tryz.prog 95 #[.agg #[.int .i64 a,.int .i64 b,.int .i64 c],.agg #[.int .i64 p,.int .i64 q,.int .i64 r]] w1 fun e w'=>e= .returned (.int .i64 (bR a b c p q r))∧Below w1.heap.size w1 w'):=fF _ _ _ _ _ _;have HD:Hid (∀ w1,Calls Tryz.prog 95 #[.agg #[.int .i64 p,.int .i64 q,.int .i64 r],.agg #[.int .i64 x,.int .i64 y,.int .i64 z]] w1 fun e w'=>e= .returned (.int .i64 (bR p q r x y z))∧Below w1.heap.size w1 w'):=fF _ _ _ _ _ _;have HH:Hid (mC p q r ⟨a,b,c,x,y,z⟩=(decide (bR a b c p q r≤0)&&decide (bR p q r x y z≤0))):=rfl
    have HR:Hid ((Below w.heap.size w (wr.alloc (.cells #[.int .i64 a,.int .i64 b,.int .i64 c,.int .i64 x,.int .i64 y,.int .i64 z] 91))∧BxAt (wr.alloc (.cells #[.int .i64 a,.int .i64 b,.int .i64 c,.int .i64 x,.int .i64 y,.int .i64 z] 91)) ⟨w.heap.size,.int .i64 p,.int .i64 q,.int .i64 r⟩)∧Bx6 (wr.alloc (.cells #[.int .i64 a,.int .i64 b,.int .i64 c,.int .i64 x,.int .i64 y,.int .i64 z] 91)) wr.heap.size a b c x y z):=⟨HK.out _ _ hb (aD _ _),Bx6.new rfl _ _ _ _ _ _⟩;have HQ:Hid (KeepP fun w1=>(Below w.heap.size w w1∧BxAt w1 ⟨w.heap.size,.int .i64 p,.int .i64 q,.int .i64 r⟩)∧Bx6 w1 wr.heap.size a b c x y z):=HK.out.and (yL _ _ _ _ _ _ _);obtain ⟨c0,c1,c2,c3,c4,c5⟩:=hs
    simp only at c0 c1 c2 c3 c4 c5
    obtain ⟨_,v0,v1,v2,v3⟩:=HR.out.1;clear hb;have t1:True:=trivial
    by_cases h1:bR a b c p q r≤0
    · by_cases h2:bR p q r x y z≤0
      · have HF:Hid (L.any (mC p q r)=true):=HS2.out (by rw [HH.out];simp [h1,h2])
        generalize bR a b c p q r=m at*;generalize bR p q r x y z=n at*
        go_wp2_with (first
         |(have _t:=t1;go_at_call 95;refine (tB HQ.out HC.out _ HR.out).mono ?_;rintro e w1 ⟨rfl,ok⟩;have HR1:=aA ok;clear ok t1 HR;obtain ⟨⟨_,i0,i1,i2,i3⟩,k0,k1,k2,k3,k4,k5,k6⟩:=HR1.out)
         |(go_at_call 95;refine (tB HQ.out HD.out _ HR1.out).mono ?_;rintro e w2 ⟨rfl,ok⟩;have HR2:=aA ok;clear ok HR1))
        go_ret;exact ⟨aC HF.out.symm,HR2.out.1.1⟩
      · have HF:Hid ((L.take (k+1)).any (mC p q r)=false):=by unfold Hid;rw [HS.out,HH.out];simp [h2]
        generalize bR a b c p q r=m at*;generalize bR p q r x y z=n at*
        go_wp2_with (first
         |(have _t:=t1;go_at_call 95;refine (tB HQ.out HC.out _ HR.out).mono ?_;rintro e w1 ⟨rfl,ok⟩;have HR1:=aA ok;clear ok t1 HR;obtain ⟨⟨_,i0,i1,i2,i3⟩,k0,k1,k2,k3,k4,k5,k6⟩:=HR1.out)
         |(go_at_call 95;refine (tB HQ.out HD.out _ HR1.out).mono ?_;rintro e w2 ⟨rfl,ok⟩;have HR2:=aA ok;clear ok HR1))
        exact ⟨⟨k+1,by omega,by go_num,HR2.out.1,HF.out⟩,by simp [intOf];omega⟩
    · have HF:Hid ((L.take (k+1)).any (mC p q r)=false):=by unfold Hid;rw [HS.out,HH.out];simp [h1]
      generalize bR a b c p q r=m at*
      go_wp2_with (go_at_call 95;refine (tB HQ.out HC.out _ HR.out).mono ?_;rintro e w1 ⟨rfl,ok⟩;have HR1:=aA ok;clear ok t1 HR;obtain ⟨⟨_,i0,i1,i2,i3⟩,k0,k1,k2,k3,k4,k5,k6⟩:=HR1.out)
      exact ⟨⟨k+1,by omega,by go_num,HR1.out.1,HF.out⟩,by simp [intOf];omega⟩
  · have hke:k=L.length:=by omega
    subst hke;have HF:Hid (L.any (mC p q r)=false):=by have:=HN.out;rw [List.take_length] at this;exact this
    have HB:=aA hb.1;clear hb
    go_wp2
    go_ret;exact ⟨aC HF.out.symm,HB.out⟩
set_option maxHeartbeats 800000 in
theorem JG (v:Value) (p q r:Int) (w:World) (h:∀ w1,Below w.heap.size w w1→Calls Tryz.prog 96 #[v] w1 fun e w'=>e= .returned (.bool false)∧Below w1.heap.size w1 w'):
 Calls Tryz.prog 51 #[v,.agg #[.int .i64 p,.int .i64 q,.int .i64 r]] w fun e w'=>e= .returned (.bool false)∧Below w.heap.size w w':=by
 have HM:Hid (∀ w1,Below w.heap.size w w1→Calls Tryz.prog 96 #[v] w1 fun e w'=>e= .returned (.bool false)∧Below w1.heap.size w1 w'):=h;clear h
 go_enter Tryz.func51,Tryz.ntmps51
 go_wp2_with (go_at_call 96;refine (HM.out _ (aD _ _)).mono ?_;rintro e w1 ⟨rfl,hb⟩)
 go_ret;exact ⟨rfl,aB (aD _ _) hb⟩
set_option maxHeartbeats 800000 in
theorem JH (v:Value) (p q r:Int) (w:World) (h:∀ w1,Below w.heap.size w w1→Calls Tryz.prog 96 #[v] w1 fun e w'=>e= .returned (.bool true)∧Below w1.heap.size w1 w') (hv:aN p q r=false):
 Calls Tryz.prog 51 #[v,.agg #[.int .i64 p,.int .i64 q,.int .i64 r]] w fun e w'=>e= .returned (.bool false)∧Below w.heap.size w w':=by
 have HM:Hid (∀ w1,Below w.heap.size w w1→Calls Tryz.prog 96 #[v] w1 fun e w'=>e= .returned (.bool true)∧Below w1.heap.size w1 w'):=h;have HV:Hid (∀ w1,Calls Tryz.prog 97 #[.agg #[.int .i64 p,.int .i64 q,.int .i64 r]] w1 fun e w'=>e= .returned (.bool false)∧Below w1.heap.size w1 w'):=by have:=dX p q r;rw [hv] at this;exact this
 have HO:Hid (BxAt (w.alloc (.cells #[.int .i64 p,.int .i64 q,.int .i64 r] 31)) ⟨w.heap.size,.int .i64 p,.int .i64 q,.int .i64 r⟩):=(((OKs.nil w).box rfl _ _ _).one);clear h hv
 go_enter Tryz.func51,Tryz.ntmps51
 go_wp2_with (first
  |(go_at_call 96;refine (HM.out _ (aD _ _)).mono ?_;rintro e w1 ⟨rfl,hb⟩;obtain ⟨v0,v1,v2,v3⟩:=HO.out.below hb)
  |(go_at_call 97;refine (HV.out _).mono ?_;rintro e w2 ⟨rfl,hb2⟩))
 go_ret;exact ⟨rfl,aB (aB (aD _ _) hb) hb2⟩
set_option maxHeartbeats 800000 in
theorem JI (ad:Option Addr) (cap:Nat) (p q r:Int) (w:World) (hv:aN p q r=true):
 Calls Tryz.prog 51 #[.slice ad 0 cap,.agg #[.int .i64 p,.int .i64 q,.int .i64 r]] w fun e w'=>e= .returned (.bool false)∧Below w.heap.size w w':=by
 have HM:Hid (∀ w1,Calls Tryz.prog 96 #[.slice ad 0 cap] w1 fun e w'=>e= .returned (.bool true)∧Below w1.heap.size w1 w'):=mV ad cap;have HV:Hid (∀ w1,Calls Tryz.prog 97 #[.agg #[.int .i64 p,.int .i64 q,.int .i64 r]] w1 fun e w'=>e= .returned (.bool true)∧Below w1.heap.size w1 w'):=by have:=dX p q r;rw [hv] at this;exact this
 have HO:Hid (BxAt (w.alloc (.cells #[.int .i64 p,.int .i64 q,.int .i64 r] 31)) ⟨w.heap.size,.int .i64 p,.int .i64 q,.int .i64 r⟩):=(((OKs.nil w).box rfl _ _ _).one);clear hv
 go_enter Tryz.func51,Tryz.ntmps51
 go_wp2_with (first
  |(go_at_call 96;refine (HM.out _).mono ?_;rintro e w1 ⟨rfl,hb⟩;obtain ⟨v0,v1,v2,v3⟩:=HO.out.below hb)
  |(go_at_call 97;refine (HV.out _).mono ?_;rintro e w2 ⟨rfl,hb2⟩))
 have HB:=aA (aB (aB (aD _ _) hb) hb2)
 go_loop [17] (fun i=>i= .int .i64 0) (fun _=>0)
 case atStart=>rfl
 case round=>
  subst hrel
  go_wp2
  go_ret;exact ⟨rfl,HB.out⟩
theorem yN {w:World} {v:Value} {L:List Sp} (h:SpansAt w v L) (p q r:Int):
 Calls Tryz.prog 51 #[v,.agg #[.int .i64 p,.int .i64 q,.int .i64 r]] w fun e w'=>e= .returned (.bool (inL L p q r))∧Below w.heap.size w w':=by
 have hM:∀ w1,Below w.heap.size w w1→Calls Tryz.prog 96 #[v] w1 fun e w'=>e= .returned (.bool (cJ L))∧Below w1.heap.size w1 w':=fun w1 hb=>mW (h.below hb)
 unfold inL;cases hm:cJ L
 · rw [hm] at hM
   exact JG v p q r w hM
 · rw [hm] at hM
   cases hv:aN p q r
   · exact JH v p q r w hM hv
   · obtain ⟨ad,cap,rfl,hl⟩:=h
     rcases hl with rfl|⟨g,o,rfl,hg,hs⟩
     · exact JI ad cap p q r w hv
     · have h64:L.length≤64:=by unfold cJ at hm;simp at hm;exact hm.1
       exact EJ L g o cap p q r w h64 hg hs hM hv
end Go.Proofs.YtpfemjlhklnfoaaGreatDoor
namespace Go.Proofs.YtpfemjlhklnfoaaGreatDoor
abbrev Rg:=List (Int×Int)
def RiseR (k M:Int):Rg→Prop
 |[]=>True
 |(g,h)::B=>k≤g∧g≤h∧h≤M∧RiseR (h+2) M B
theorem RiseR.weak {M j k:Int}:∀ {B:Rg},RiseR k M B→j≤k→RiseR j M B
 |[],_,_=>trivial
 |(_,_)::_,h,hj=>⟨Int.le_trans hj h.1,h.2⟩
theorem RiseR.mem {M:Int} {p:Int×Int}:∀ {C:Rg} {j:Int},RiseR j M C→p ∈ C→j≤p.1∧p.1≤p.2∧p.2≤M
 |[],_,_,hq=>by cases hq
 |(a,b)::C,j,hr,hq=>by
  obtain ⟨r1,r2,r3,r4⟩:=hr
  rcases List.mem_cons.1 hq with rfl|hq
  · exact ⟨r1,r2,r3⟩
  · have:=RiseR.mem r4 hq;omega
def RangeR (A:Rg):Prop:=RiseR 0 999999999 A
end Go.Proofs.YtpfemjlhklnfoaaGreatDoor
namespace Go.Proofs.YtpfemjlhklnfoaaGreatDoor
open Go.RowKit
set_option maxRecDepth 100000
def spR (p:Int×Int):Sp:=⟨atA p.1,atB p.1,atC p.1,atA p.2,atB p.2,atC p.2⟩
def okR (n:Int):Prop:=0≤n∧n≤999999999
def AR (p:Int×Int):Prop:=okR p.1∧okR p.2∧p.1≤p.2
theorem okR.has {n:Int} (h:okR n):fN n=true:=by unfold fN;simp;unfold okR at h;omega
def SpansR (w:World) (v:Value) (L:Rg):Prop:=∃ ad cap,v= .slice ad L.length cap∧L.length≤cap∧(L=[]∨∃ g o,ad=some ⟨g,o,none⟩∧g<w.heap.size∧∀ i (h:i<L.length),SpAt w g (o+i*6) (spR L[i]))
def bM (L:List Sp):List Value:=L.flatMap fun s=>[.int .i64 s.a,.int .i64 s.b,.int .i64 s.c,.int .i64 s.x,.int .i64 s.y,.int .i64 s.z]
theorem eR (L:List Sp):(bM L).length=L.length*6:=by
 induction L with
 |nil=>rfl
 |cons r L ih=>unfold bM at*;simp only [List.flatMap_cons,List.length_append,List.length_cons,List.length_nil,ih];omega
def OwnS (w:World) (B:Nat) (v:Value) (L:List Sp):Prop:=w.ownsRow B 91 6 v L.length (bM L)
theorem OwnS.nil (w:World) (B:Nat):OwnS w B (.slice none 0 0) []:=⟨rfl,Or.inl ⟨rfl,rfl⟩⟩
theorem OwnS.lt {w:World} {B:Nat} {v:Value} {L:List Sp} (h:OwnS w B v L) {g:Nat} (hg:v.ownBlock=some g):g<w.heap.size∧B≤g:=by
 rcases h.2 with ⟨rfl,_⟩|⟨g',cap,cur,rfl,hB,hgg,_⟩
 · cases hg
 · cases hg
   exact ⟨by rw [Array.getElem?_eq_some_iff] at hgg;exact hgg.1,hB⟩
theorem OwnS.of_block {w w':World} {B:Nat} {v:Value} {L:List Sp} (h:OwnS w B v L) (hk:∀ g,v.ownBlock=some g→w'.heap[g]? =w.heap[g]?):OwnS w' B v L:=by
 refine ⟨h.1,?_⟩
 rcases h.2 with hn|⟨g,cap,cur,rfl,hB,hgg,r⟩
 · exact Or.inl hn
 · exact Or.inr ⟨g,cap,cur,rfl,hB,(hk g rfl).trans hgg,r⟩
theorem OwnS.below {w w':World} {B:Nat} {v:Value} {L:List Sp} (h:OwnS w B v L) (hb:Below w.heap.size w w'):OwnS w' B v L:=h.of_block fun g hg=>hb.block g (h.lt hg).1
theorem tD:(Tryz.prog.info? 91).map (fun i=>(i.zero,i.size,i.bytes))=some (some (.agg #[.int .i64 0,.int .i64 0,.int .i64 0,.int .i64 0,.int .i64 0,.int .i64 0]),6,48):=by kernel_rfl
theorem RangeR.ok {B:Rg} (h:RangeR B):∀ p ∈ B,AR p:=fun p hp=>by
 have:=RiseR.mem h hp
 unfold AR okR;omega
theorem iZ:∀ (L:List Sp) (i:Nat) (h:i<L.length),(bM L)[i*6]? =some (.int .i64 L[i].a)∧(bM L)[i*6+1]? =some (.int .i64 L[i].b)∧(bM L)[i*6+1+1]? =some (.int .i64 L[i].c)∧
 (bM L)[i*6+1+1+1]? =some (.int .i64 L[i].x)∧(bM L)[i*6+1+1+1+1]? =some (.int .i64 L[i].y)∧(bM L)[i*6+1+1+1+1+1]? =some (.int .i64 L[i].z)
 |[],i,h=>by simp at h
 |s::L,0,_=>by simp [bM]
 |s::L,i+1,h=>by
  have ih:=iZ L i (by simpa using h);have e:(i+1)*6=i*6+6:=by omega
  have q:∀ j,(bM (s::L))[i*6+6+j]? =(bM L)[i*6+j]? :=fun j=>by
   have:i*6+6+j=(i*6+j)+6:=by omega
   rw [this];simp [bM]
  have q0:=q 0;have q1:=q 1;have q2:=q 2;have q3:=q 3;have q4:=q 4;have q5:=q 5;simp only [Nat.add_zero] at q0;rw [e];simp only [List.getElem_cons_succ];exact ⟨q0.trans ih.1,q1.trans ih.2.1,q2.trans ih.2.2.1,q3.trans ih.2.2.2.1,q4.trans ih.2.2.2.2.1,q5.trans ih.2.2.2.2.2⟩
theorem OwnS.base {w:World} {B C:Nat} {v:Value} {L:List Sp} (h:OwnS w B v L) (hc:C≤B):OwnS w C v L:=by
 refine ⟨h.1,?_⟩
 rcases h.2 with hn|⟨g,cap,cur,hv,hB,r⟩
 · exact Or.inl hn
 · exact Or.inr ⟨g,cap,cur,hv,Nat.le_trans hc hB,r⟩
theorem OwnS.sp {w:World} {B:Nat} {v:Value} {L:List Sp} (h:OwnS w B v L):∃ ad cap,v= .slice ad L.length cap∧L.length≤cap∧(L=[]∨∃ g o,ad=some ⟨g,o,none⟩∧g<w.heap.size∧∀ i (h:i<L.length),SpAt w g (o+i*6) L[i]):=by
 rcases h.2 with ⟨rfl,hn⟩|⟨g,cap,cur,rfl,hB,hgg,hc,hm,hs,hx⟩
 · have:L=[]:=List.eq_nil_of_length_eq_zero hn
   subst this;exact ⟨none,0,rfl,Nat.le_refl _,Or.inl rfl⟩
 · refine ⟨_,_,rfl,hc,Or.inr ⟨g,0,rfl,?_,fun i hi=> ?_⟩⟩
   · rw [Array.getElem?_eq_some_iff] at hgg;exact hgg.1
   · have q:∀ j v,(bM L)[j]? =some v→w.cell? ⟨g,0+j,none⟩=some v:=fun j v hj=>by
      rw [←hx,List.getElem?_take] at hj
      split at hj
      · rw [Nat.zero_add]
        simp [World.cell?,hgg]
        simpa using hj
      · cases hj
     obtain ⟨s0,s1,s2,s3,s4,s5⟩:=iZ L i hi;exact ⟨q _ _ s0,q _ _ s1,q _ _ s2,q _ _ s3,q _ _ s4,q _ _ s5⟩
def FL (w:World):Prop:=(w.cell? ⟨1,0,none⟩=some (.int .i64 0)∧w.cell? ⟨1,1,none⟩=some (.int .i64 0)∧w.cell? ⟨1,2,none⟩=some (.int .i64 0))∧
 (w.cell? ⟨2,0,none⟩=some (.int .i64 999)∧w.cell? ⟨2,1,none⟩=some (.int .i64 999)∧w.cell? ⟨2,2,none⟩=some (.int .i64 999))∧1<w.heap.size∧2<w.heap.size
theorem FL.below {w w':World} (h:FL w) (hb:Below w.heap.size w w'):FL w':=by
 obtain ⟨⟨h0,h1,h2⟩,⟨h3,h4,h5⟩,h6,h7⟩:=h;have q:∀ i,w'.cell? ⟨1,i,none⟩=w.cell? ⟨1,i,none⟩:=fun i=>hb.cell (p:=⟨1,i,none⟩) h6
 have r:∀ i,w'.cell? ⟨2,i,none⟩=w.cell? ⟨2,i,none⟩:=fun i=>hb.cell (p:=⟨2,i,none⟩) h7
 exact ⟨⟨by rw [q];exact h0,by rw [q];exact h1,by rw [q];exact h2⟩,⟨by rw [r];exact h3,by rw [r];exact h4,by rw [r];exact h5⟩,Nat.lt_of_lt_of_le h6 hb.size,Nat.lt_of_lt_of_le h7 hb.size⟩
end Go.Proofs.YtpfemjlhklnfoaaGreatDoor
namespace Go.Proofs.YtpfemjlhklnfoaaGreatDoor
open Go.RowKit
def rk (s:Sp):Int×Int:=(aH s.a s.b s.c,aH s.x s.y s.z)
theorem cN {a b c x y z:Int}:eA a b c x y z=true↔aN a b c=true∧aN x y z=true∧bR a b c x y z≤0:=by
 unfold eA;simp [and_assoc]
theorem iD {a b c x y z:Int} (h:aN a b c=true) (k:aN x y z=true):bR a b c x y z≤0↔aH a b c≤aH x y z:=by
 have h1:=mR k h;rw [JE] at h1;omega
theorem EK {s:Sp} (h:eA s.a s.b s.c s.x s.y s.z=true):spR (rk s)=s∧AR (rk s):=by
 obtain ⟨h1,h2,h3⟩:=cN.1 h;rw [iD h1 h2] at h3;obtain ⟨a,b,c,x,y,z⟩:=s;obtain ⟨e1,e2,e3⟩:=yK h1;obtain ⟨f1,f2,f3⟩:=yK h2;have l1:=eO h1;have l2:=eO h2;refine ⟨?_,?_,?_,?_⟩
 · simp only [spR,rk]
   simp only at e1 e2 e3 f1 f2 f3
   rw [e1,e2,e3,f1,f2,f3]
 · unfold okR rk;simp only at*;omega
 · unfold okR rk;simp only at*;omega
 · exact h3
theorem kU {p:Int×Int} (h:AR p):rk (spR p)=p∧eA (spR p).a (spR p).b (spR p).c (spR p).x (spR p).y (spR p).z=true:=by
 obtain ⟨h1,h2,h3⟩:=h;obtain ⟨m1,e1⟩:=eP h1.has;obtain ⟨m2,e2⟩:=eP h2.has;refine ⟨?_,?_⟩
 · unfold rk spR;simp only;rw [e1,e2]
 · rw [cN]
   refine ⟨m1,m2,?_⟩;unfold spR
   simp only
   rw [iD m1 m2,e1,e2];exact h3
theorem jR {x y z a b c:Int} (h:aN x y z=true) (k:aN a b c=true):eQ x y z a b c=true↔aH x y z+2≤aH a b c:=by
 unfold eQ;have l1:=eO h;have l2:=eO k;rw [Bool.and_eq_true,decide_eq_true_eq]
 constructor
 · rintro ⟨h1,h2⟩
   obtain ⟨_,m,e⟩:=EI h1;rw [mR m k,e] at h2;omega
 · intro h1
   have h2:mQ x y z 1=true:=by rw [JF h];simp;omega
   obtain ⟨_,m,e⟩:=EI h2;refine ⟨h2,?_⟩;rw [mR m k,e];omega
theorem kV {s:Sp} {L:List Sp}:cS (s::L) 0=eA s.a s.b s.c s.x s.y s.z:=by simp [cS]
theorem mX {s t:Sp} {L:List Sp}:cS (s::t::L) 1=(eA t.a t.b t.c t.x t.y t.z&&eQ s.x s.y s.z t.a t.b t.c):=by simp [cS]
theorem pN {s:Sp} {L:List Sp} {i:Nat}:cS (s::L) (i+1+1)=cS L (i+1):=by simp [cS]
theorem JJ {s:Sp} {L:List Sp} (h:∀ i,i<(s::L).length→cS (s::L) i=true):∀ i,i<L.length→cS L i=true:=by
 intro i hi;cases i with
 |succ i=>rw [←pN (s:=s)];exact h _ (by simpa using hi)
 |zero=>
  cases L with
  |nil=>simp at hi
  |cons t L=>
   have:=h 1 (by simp)
   rw [mX,Bool.and_eq_true] at this;rw [kV];exact this.1
theorem yO:∀ {L:List Sp},(∀ i,i<L.length→cS L i=true)→(L.map rk).map spR=L∧RangeR (L.map rk)
 |[],_=>⟨rfl,trivial⟩
 |s::L,h=>by
  obtain ⟨e,hr⟩:=yO (JJ h);have h0:=h 0 (by simp);rw [kV] at h0;obtain ⟨es,o1,o2,o3⟩:=EK h0;refine ⟨by rw [List.map_cons,List.map_cons,e,es],o1.1,o3,o2.2,?_⟩;cases L with
  |nil=>trivial
  |cons t L=>
   have h1:=h 1 (by simp);rw [mX,Bool.and_eq_true] at h1;have ha:=(jR (cN.1 h0).2.1 (cN.1 h1.1).1).1 h1.2;exact ⟨ha,hr.2⟩
theorem yP:∀ {A:Rg},RangeR A→∀ i,i<(A.map spR).length→cS (A.map spR) i=true
 |[],_,i,hi=>by simp at hi
 |p::A,h,i,hi=>by
  obtain ⟨g,e⟩:=p;obtain ⟨h1,h2,h3,h4⟩:=h;have ho:AR (g,e):=⟨⟨h1,by show g≤999999999;omega⟩,⟨by show 0≤e;omega,h3⟩,h2⟩;have ih:=yP (A:=A) (h4.weak (by omega));cases i with
  |zero=>rw [List.map_cons,kV];exact (kU ho).2
  |succ i=>
   cases i with
   |succ i=>rw [List.map_cons,pN];exact ih _ (by simpa using hi)
   |zero=>
    cases A with
    |nil=>simp at hi
    |cons q A=>
     obtain ⟨g',e'⟩:=q;obtain ⟨k1,k2,k3,_⟩:=h4;have hq:AR (g',e'):=⟨⟨by show 0≤g';omega,by show g'≤999999999;omega⟩,⟨by show 0≤e';omega,k3⟩,k2⟩;rw [List.map_cons,List.map_cons,mX,Bool.and_eq_true];refine ⟨(kU hq).2,?_⟩;rw [jR (cN.1 (kU ho).2).2.1 (cN.1 (kU hq).2).1];have r1:=congrArg Prod.snd (kU ho).1;have r2:=congrArg Prod.fst (kU hq).1;simp only [rk] at r1 r2;rw [r1,r2];exact k1
theorem jS {L:List Sp}:cJ L=true↔∃ A:Rg,L=A.map spR∧RangeR A∧A.length≤64:=by
 unfold cJ;rw [Bool.and_eq_true,decide_eq_true_eq,List.all_eq_true]
 constructor
 · rintro ⟨h1,h2⟩
   obtain ⟨e,hr⟩:=yO fun i hi=>h2 i (List.mem_range.2 hi)
   exact ⟨L.map rk,e.symm,hr,by simpa using h1⟩
 · rintro ⟨A,rfl,hr,hl⟩
   exact ⟨by simpa using hl,fun i hi=>yP hr i (List.mem_range.1 hi)⟩
theorem MF {A:Rg} (h:RangeR A) (hl:A.length≤64):cJ (A.map spR)=true:=jS.2 ⟨A,rfl,h,hl⟩
theorem SpansR.at {w:World} {v:Value} {A:Rg} (h:SpansR w v A):SpansAt w v (A.map spR):=by
 obtain ⟨ad,cap,hv,hc,hl⟩:=h;refine ⟨ad,cap,by rw [List.length_map];exact hv,?_⟩
 rcases hl with rfl|⟨g,o,ha,hg,hs⟩
 · exact Or.inl rfl
 · right
   refine ⟨g,o,ha,hg,fun i hi=> ?_⟩;rw [List.getElem_map];exact hs i (by simpa using hi)
def SpansC (w:World) (v:Value) (L:List Sp):Prop:=SpansAt w v L∧∃ ad n cap,v= .slice ad n cap∧n≤cap
theorem SpansC.rg {w:World} {v:Value} {A:Rg} (h:SpansC w v (A.map spR)):SpansR w v A:=by
 obtain ⟨⟨ad,cap,rfl,hl⟩,ad',n',cap',hv,hc⟩:=h;cases hv;rw [List.length_map] at hc ⊢;refine ⟨_,_,rfl,hc,?_⟩
 rcases hl with hl|⟨g,o,ha,hg,hs⟩
 · left;simpa using hl
 · right
   refine ⟨g,o,ha,hg,fun i hi=> ?_⟩
   have:=hs i (by simpa using hi)
   rw [List.getElem_map] at this;exact this
theorem SpansC.below {w w':World} {v:Value} {L:List Sp} (h:SpansC w v L) (hb:Below w.heap.size w w'):SpansC w' v L:=⟨h.1.below hb,h.2⟩
end Go.Proofs.YtpfemjlhklnfoaaGreatDoor
namespace Go.Proofs.YtpfemjlhklnfoaaGreatDoor
open Go.ChangeShapes Go.WideShapes Go.ChangeAt Go.RowKit
set_option maxRecDepth 100000
theorem own:ownKnob Tryz.prog.godebug=none:=by kernel_rfl
theorem yQ:laidOutB Tryz.prog=true:=by kernel_rfl
theorem mY:Tryz.prog.cellsOf 3=1:=by kernel_rfl
theorem jT:Tryz.prog.cellsOf 31=3:=by kernel_rfl
theorem mZ {cs:List Value} {o:Nat} {v:Value} (h:(cs.drop o).take 1=[v]):cs[o]? =some v:=by
 have h0:((cs.drop o).take 1)[0]? =some v:=by rw [h];rfl
 simpa using h0
theorem bB {fs:Array Field} {i ty off:Nat} (h:(fs[i]?).map (fun f=>(f.type,f.offset))=some (ty,off)):∃ f,fs[i]? =some f∧f.type=ty∧f.offset=off:=by
 cases hf:fs[i]? with
 |none=>rw [hf] at h;cases h
 |some f=>
  rw [hf] at h;simp only [Option.map_some,Option.some.injEq,Prod.mk.injEq] at h;exact ⟨f,rfl,h.1,h.2⟩
theorem LV {α:Type} {l:List α} (h:l.length=3):∃ a b c,l=[a,b,c]:=by
 match l,h with
 |[a,b,c],_=>exact ⟨a,b,c,rfl⟩
theorem AU {H:Type} {enc:TypeId×Value→H} {a:Assume} {C:Checked} {os:Os} {f:FuncId} {fn:Func} {s:ChangeSpec} {conds:List PathCond} {apart fresh handsOn again:Bool} {l:List (String×DataW Unit)}
 (own:ownKnob C.prog.godebug=none) (started:os.Started) (noInit:C.prog.inits.idxOf? f=none) (hfn:C.prog.funcs[f]? =some fn)
 (witness:∃ (w:World) (tape:Tape) (i:Input),w.os=os∧(w.forCall tape i).Shaped C.prog∧i.vars=[]∧Input.okWide C.prog (w.forCall tape i) .any w.heap.size f i∧
   ((s.pre enc C.prog fn conds apart (w.forCall tape i).memory i.args∧laidMetH C.prog l (w.forCall tape i).memory)∧sizedMet enc C.prog fn (OpenSpec.ofChange s) apart (w.forCall tape i).memory i.args)∧a.holds C.prog (lone (Frame.enter C.prog f i.args .normal) [] (w.forCall tape i)))
 (contract:∀ (W:World) (base:Nat) (args:Array Value) (ds gs:List (DataW H)) (before:List MemPlace),
   (∀ (j:Nat) t v,fn.params[j]? =some t→args[j]? =some v→Value.okWide C.prog W .any base t v)→
   DataW.Whole enc C.prog fn.params.toList s.vars apart W args.toList ds gs before→
   (DataW.weightsEach C.prog (fn.params.toList++s.plain.varTypes C.prog) (ds++gs)).all (· ≤reachBytes)=true→W.ShapedOpen C.prog→laidMetH C.prog l W→
   Calls C.prog f args W fun e W'=>∃ v,e= .returned v∧s.post enc C.prog fn apart fresh handsOn again W args v W'):
 ReturnsInHanded a C os f .any (fun w args=>(s.pre enc C.prog fn conds apart w args∧laidMetH C.prog l w)∧sizedMet enc C.prog fn (OpenSpec.ofChange s) apart w args) (s.post enc C.prog fn apart fresh handsOn again):=by
 refine returnsInHanded_of_calls own started noInit witness ?_;intro w tape i _ hsh _ hok hpre _;obtain ⟨_,_,_,fn',hfn',_,_,_,_,hval⟩:=hok;have e:fn'=fn:=Option.some.inj (hfn'.symm.trans hfn);subst e;obtain ⟨⟨⟨ds,gs,before,hw,_⟩,hX⟩,hz⟩:=hpre;have hw':=DataW.Whole.of_heap (w':=w.forCall tape i) (by rfl) hw;have hX':=laidMetH.of_heap (w':=w.forCall tape i) (by rfl) hX;refine (contract (w.forCall tape i) w.heap.size i.args ds gs before hval hw' (hz.weights hw) hsh hX').mono fun e W' ⟨v,he,hp⟩=> ?_
 subst he;exact ChangeSpec.post_blind hp
theorem MG {W:World} {r:List (String×DataW Unit)} (h:laidMet Tryz.prog (("math/bits.deBruijn32tab",Rows.laid_math_bits_deBruijn32tab)::("math/bits.deBruijn64tab",Rows.laid_math_bits_deBruijn64tab)::("internal/strconv.uint64pow10",Rows.laid_internal_strconv_uint64pow10)::r) W):
 Lib.TabIs Tryz.prog W "internal/strconv.uint64pow10" .u64 Lib.pow10Tab:=by
 have h2:laidMet Tryz.prog (("internal/strconv.uint64pow10",Lib.tabData .u64 Lib.pow10Tab)::r) W:=(laidMet.tail (laidMet.tail h));exact Lib.tabIs_of_head (g:=3) (t:=292) (e:=199) (n:=20) (by kernel_rfl) (by kernel_rfl) (by kernel_rfl) Tryz.underlying199 (by kernel_rfl) (by kernel_rfl) h2
theorem jA {W:World} (h:Lib.TabIs Tryz.prog W "internal/strconv.uint64pow10" .u64 Lib.pow10Tab) (w:World) (hw:Below W.heap.size W w) (n:Int) (h0:0≤n) (h1:n≤999):Spells w n ⟨(Lib.itoa n).toArray⟩:=by
 intro w1 hb;have ht:=Lib.tabBelow_of_tabIs h w1 (aB hw hb);refine (Tryz.strconv_Itoa n (by omega) (by omega) w1 ht).mono ?_;rintro e w' ⟨rfl,k,os,rfl⟩;exact ⟨rfl,Lib.below_grow _ _ (Nat.le_refl _) k os⟩
end Go.Proofs.YtpfemjlhklnfoaaGreatDoor
namespace Go.Proofs.YtpfemjlhklnfoaaGreatDoor
set_option maxRecDepth 100000
theorem AV {k:Nat} (h:k<10):(UInt8.ofNat (48+k)).toNat=48+k:=by
 rw [UInt8.toNat_ofNat'];omega
theorem rH {n:Int} (h:0≤n):Lib.itoa n=Lib.decDigits n.toNat:=by
 obtain ⟨u,rfl⟩:∃ u:Nat,n=u:=⟨n.toNat,by omega⟩;rw [Lib.itoa_nonneg];rfl
end Go.Proofs.YtpfemjlhklnfoaaGreatDoor
namespace Go.Proofs.YtpfemjlhklnfoaaGreatDoor
open Go.RowKit
set_option maxRecDepth 100000
theorem yR (d:Int) (h0:0≤d) (h1:d<10) (W:World) (N:Nat) (hN:W.cell? ⟨N,0,none⟩=some (.int .u8 (48+d))):
 (convert 171 9 (.slice (some ⟨N,0,none⟩) 1 1)).run Tryz.prog W= .ok (.string ⟨#[UInt8.ofNat (48+d.toNat)]⟩) W:=by
 have e:=AV (k:=d.toNat) (by omega)
 exact run_convert_bytes_back (P:=Tryz.prog) W 171 9 5 ⟨N,0,none⟩ 1 [UInt8.ofNat (48+d.toNat)] Tryz.underlying171 Tryz.underlying5 Tryz.underlying9 (fun j hj=>by
  have hj0:j=0:=by simp at hj;exact hj
  subst hj0;rw [show (⟨N,0,none⟩:Addr).add 0=⟨N,0,none⟩ from rfl,hN];simp only [List.getElem_cons_zero];rw [e]
  congr 2
  omega)
theorem AW (d:Int) (h0:0≤d) (h1:d<10) (W:World):
 (convert 171 9 (.slice (some ⟨W.heap.size,0,none⟩) 1 1)).run Tryz.prog (W.alloc (.cells #[.int .u8 (48+d)] 5))= .ok (.string ⟨#[UInt8.ofNat (48+d.toNat)]⟩) (W.alloc (.cells #[.int .u8 (48+d)] 5)):=
 yR d h0 h1 _ _ (by rw [World.cell?_alloc_new];rfl)
theorem vZ {n:Int} (h0:0≤n) (h1:n<10):Lib.itoa n=[UInt8.ofNat (48+n.toNat)]:=by
 rw [rH h0,Lib.decDigits_one (by omega)]
theorem AX {n:Int} (h0:10≤n):Lib.itoa n=Lib.itoa (n / 10)++[UInt8.ofNat (48+(n % 10).toNat)]:=by
 rw [rH (by omega),rH (by omega),Lib.decDigits,dif_neg (by omega)];have e1:n.toNat / 10=(n / 10).toNat:=by omega
 have e2:n.toNat % 10=(n % 10).toNat:=by omega
 rw [e1,e2]
set_option maxHeartbeats 1600000 in
theorem rI (n:Int) (h0:0≤n) (h1:n<10) (w:World):
 Calls Tryz.prog 202 #[.int .i64 n] w fun e w'=>e= .returned (.string ⟨(Lib.itoa n).toArray⟩)∧Below w.heap.size w w':=by
 have hc:=AW n h0 h1
 go_enter Tryz.func202,Tryz.ntmps202
 go_wp2
 go_returns;exact ⟨iC (by simp [vZ h0 h1]),aD _ _⟩
set_option maxHeartbeats 1600000 in
theorem tE (n:Int) (h0:10≤n) (h1:n≤999) (w:World) (A:ByteArray) (hA:A.size≤100) (D:UInt8) (hD:UInt8.ofNat (48+(n % 10).toNat)=D)
 (HN:Hid (∀ w1,Calls Tryz.prog 202 #[.int .i64 (n / 10)] w1 fun e w'=>e= .returned (.string A)∧Below w1.heap.size w1 w')):
 Calls Tryz.prog 202 #[.int .i64 n] w fun e w'=>e= .returned (.string (A++⟨#[D]⟩))∧Below w.heap.size w w':=by
 have HA:Hid (∀ (W:World) (N:Nat),W.cell? ⟨N,0,none⟩=some (.int .u8 (48+n % 10))→(convert 171 9 (.slice (some ⟨N,0,none⟩) 1 1)).run Tryz.prog W= .ok (.string ⟨#[D]⟩) W):=by
  intro W N hN
  have:=yR (n % 10) (by omega) (by omega) W N hN
  rw [hD] at this;exact this
 have hc:∀ W:World,(convert 171 9 (.slice (some ⟨W.heap.size,0,none⟩) 1 1)).run Tryz.prog (W.alloc (.cells #[.int .u8 (48+n % 10)] 5))= .ok (.string ⟨#[D]⟩) (W.alloc (.cells #[.int .u8 (48+n % 10)] 5)):=fun W=>HA.out _ _ (by rw [World.cell?_alloc_new];rfl)
 have hc2:∀ W:World,(convert 171 9 (.slice (some ⟨W.heap.size,0,none⟩) 1 1)).run Tryz.prog (W.alloc (.cells #[.int .u8 (48+n % 10)] 5)).drew= .ok (.string ⟨#[D]⟩) (W.alloc (.cells #[.int .u8 (48+n % 10)] 5)).drew:=fun W=>HA.out _ _ (by rw [World.cell?_drew,World.cell?_alloc_new];rfl)
 have e1:=fun W:World=>run_string_add_sum (P:=Tryz.prog) (w:=W) A ⟨#[D]⟩ (by have:(⟨#[D]⟩:ByteArray).size=1:=rfl;omega)
 have hq:IntKind.i64.wrap (n.tdiv 10)=n / 10:=by rw [Int.tdiv_eq_ediv_of_nonneg (by omega),IntKind.wrap_i64];omega
 have hr:n.tmod 10=n % 10:=Int.tmod_eq_emod_of_nonneg (by omega);have hs:IntKind.i64.wrap (48+n % 10)=48+n % 10:=by rw [IntKind.wrap_i64];omega
 have hu:IntKind.u8.wrap (48+n % 10)=48+n % 10:=by rw [IntKind.wrap_u8];omega
 clear hD
 go_enter Tryz.func202,Tryz.ntmps202
 go_wp2_with fail
 go_region_with (go_at_call 202;refine (HN.out _).mono ?_;rintro e w1 ⟨rfl,hb⟩;have hcc:=hb.cell (p:=⟨w.heap.size,0,none⟩);have hcd:=HA.out w1 w.heap.size;have HB:Hid (Below w.heap.size w w1):=aB (by go_grown) hb;clear hb)
 all_goals go_wp2
 all_goals
  go_returns;have hb:=HB.out;have hbs:=hb.size;exact ⟨rfl,by go_grown⟩
theorem jB (n:Int) (h0:0≤n) (h1:n≤999) (w:World):
 Calls Tryz.prog 202 #[.int .i64 n] w fun e w'=>e= .returned (.string ⟨(Lib.itoa n).toArray⟩)∧Below w.heap.size w w':=by
 obtain ⟨k,hk⟩:∃ k:Nat,n.toNat=k:=⟨_,rfl⟩
 induction k using Nat.strongRecOn generalizing n w with
 |_ k ih=>
  by_cases h:n<10
  · exact rI n h0 h w
  · have:=tE n (by omega) h1 w ⟨(Lib.itoa (n / 10)).toArray⟩ (Nat.le_trans (cC (by omega) (by omega)) (by decide)) _ rfl (fun w1=>ih (n / 10).toNat (by omega) (n / 10) (by omega) (by omega) w1 rfl)
    refine this.mono ?_;rintro e w' ⟨rfl,hb⟩;refine ⟨iC ?_,hb⟩;have e:=AX (n:=n) (by omega);rw [e];simp [ByteArray.ext_iff,ByteArray.data_append]
def SpellsR (w:World) (n:Int) (S:ByteArray):Prop:=∀ w1,Below w.heap.size w w1→Calls Tryz.prog 202 #[.int .i64 n] w1 fun e w'=>e= .returned (.string S)∧Below w1.heap.size w1 w'
theorem SpellsR.next {w:World} {n:Int} {S:ByteArray} (h:SpellsR w n S) {N:Nat} {x y z:Value} (w1:World) (hb:Below w.heap.size w w1) (hl:N<w1.heap.size) (c0:w1.cell? ⟨N,0,none⟩=some x) (c1:w1.cell? ⟨N,1,none⟩=some y) (c2:w1.cell? ⟨N,2,none⟩=some z):
 Calls Tryz.prog 202 #[.int .i64 n] w1 fun e w'=>e= .returned (.string S)∧w'.cell? ⟨N,0,none⟩=some x∧w'.cell? ⟨N,1,none⟩=some y∧w'.cell? ⟨N,2,none⟩=some z∧N<w'.heap.size∧Below w.heap.size w w':=by
 refine (h w1 hb).mono ?_;rintro e w' ⟨rfl,hb1⟩;exact ⟨rfl,(hb1.cell (p:=⟨N,0,none⟩) hl).trans c0,(hb1.cell (p:=⟨N,1,none⟩) hl).trans c1,(hb1.cell (p:=⟨N,2,none⟩) hl).trans c2,Nat.lt_of_lt_of_le hl hb1.size,hb.trans (hb1.mono hb.size)⟩
set_option maxHeartbeats 1600000 in
theorem wA (a b c:Int) (w:World) (ha:aN a b c=true→SpellsR w a ⟨(Lib.itoa a).toArray⟩) (hb:aN a b c=true→SpellsR w b ⟨(Lib.itoa b).toArray⟩) (hc:aN a b c=true→SpellsR w c ⟨(Lib.itoa c).toArray⟩):
 Calls Tryz.prog 141 #[.agg #[.int .i64 a,.int .i64 b,.int .i64 c]] w fun e w'=>e= .returned (.string (aT a b c))∧Below w.heap.size w w':=by
 have HM:Hid (∀ w1,Calls Tryz.prog 86 #[.agg #[.int .i64 a,.int .i64 b,.int .i64 c]] w1 fun e w'=>e= .returned (.bool (aN a b c))∧Below w1.heap.size w1 w'):=gN a b c;cases hm:aN a b c
 · have HR:Hid (aT a b c=ByteArray.empty):=by unfold Hid aT;rw [hm];rfl
   rw [hm] at HM;clear ha hb hc
   go_enter Tryz.func141,Tryz.ntmps141
   go_wp2_with (go_at_call 86;refine (HM.out _).mono ?_;rintro e w' ⟨rfl,hb⟩)
   go_returns;exact ⟨iC HR.out.symm,aB (aD _ _) hb⟩
 · have HR:Hid (aT a b c=(((⟨(Lib.itoa a).toArray⟩++⟨#[46]⟩)++⟨(Lib.itoa b).toArray⟩)++⟨#[46]⟩)++⟨(Lib.itoa c).toArray⟩):=by unfold Hid aT;rw [hm];rfl
   have HA:Hid (SpellsR w a ⟨(Lib.itoa a).toArray⟩):=ha hm;have HB:Hid (SpellsR w b ⟨(Lib.itoa b).toArray⟩):=hb hm;have HC:Hid (SpellsR w c ⟨(Lib.itoa c).toArray⟩):=hc hm;obtain ⟨a0,a1,b0,b1,c0,c1⟩:=dH hm;have za:=cC a0 a1;have zb:=cC b0 b1;have zc:=cC c0 c1;rw [hm] at HM;clear ha hb hc a0 a1 b0 b1 c0 c1;generalize (⟨(Lib.itoa a).toArray⟩:ByteArray)=A at*;generalize (⟨(Lib.itoa b).toArray⟩:ByteArray)=B at*;generalize (⟨(Lib.itoa c).toArray⟩:ByteArray)=C at*;have zd:(⟨#[46]⟩:ByteArray).size=1:=rfl;have e1:=fun W:World=>run_string_add_sum (P:=Tryz.prog) (w:=W) A ⟨#[46]⟩ (by omega)
   have e2:=fun W:World=>run_string_add_sum (P:=Tryz.prog) (w:=W) (A++⟨#[46]⟩) B (by rw [bI];omega)
   have e3:=fun W:World=>run_string_add_sum (P:=Tryz.prog) (w:=W) ((A++⟨#[46]⟩)++B) ⟨#[46]⟩ (by rw [bI,bI];omega)
   have e4:=fun W:World=>run_string_add_sum (P:=Tryz.prog) (w:=W) (((A++⟨#[46]⟩)++B)++⟨#[46]⟩) C (by rw [bI,bI,bI];omega)
   clear za zb zc zd
   go_enter Tryz.func141,Tryz.ntmps141
   go_wp2_with (go_at_call 86;refine (HM.out _).mono ?_;rintro e w0 ⟨rfl,hb0⟩;obtain ⟨k0,k1,k2,k3,k4⟩:=EC hb0)
   have HB0:Hid (Below w.heap.size w w0):=k4;have HK0:Hid (w.heap.size<w0.heap.size∧w0.cell? ⟨w.heap.size,0,none⟩=some (.int .i64 a)∧w0.cell? ⟨w.heap.size,1,none⟩=some (.int .i64 b)∧w0.cell? ⟨w.heap.size,2,none⟩=some (.int .i64 c)):=⟨k3,k0,k1,k2⟩;have t1:True:=trivial;have t2:True:=trivial;have t3:True:=trivial;clear k4 hb0
   go_region_held3 (fun w'=>w'.cell? ⟨w.heap.size,0,none⟩=some (.int .i64 a)∧w'.cell? ⟨w.heap.size,1,none⟩=some (.int .i64 b)∧w'.cell? ⟨w.heap.size,2,none⟩=some (.int .i64 c)) (go_keep)
    (first
      |(go_at_call 202;clear t1;refine (HA.out.next (N:=w.heap.size) (x:= .int .i64 a) (y:= .int .i64 b) (z:= .int .i64 c) _ ?_ ?_ ?_ ?_ ?_).mono ?_;(first|exact HB0.out|exact HB0.out.drew);exact HK0.out.1;exact HK0.out.2.1;exact HK0.out.2.2.1;exact HK0.out.2.2.2;rintro e w1 ⟨rfl,q0,q1,q2,l1,b1⟩;have HB1:Hid (Below w.heap.size w w1):=b1;have HK1:Hid (w.heap.size<w1.heap.size∧w1.cell? ⟨w.heap.size,0,none⟩=some (.int .i64 a)∧w1.cell? ⟨w.heap.size,1,none⟩=some (.int .i64 b)∧w1.cell? ⟨w.heap.size,2,none⟩=some (.int .i64 c)):=⟨l1,q0,q1,q2⟩;clear b1)
      |(go_at_call 202;clear t2;refine (HB.out.next (N:=w.heap.size) (x:= .int .i64 a) (y:= .int .i64 b) (z:= .int .i64 c) _ ?_ ?_ ?_ ?_ ?_).mono ?_;(first|exact HB1.out|exact HB1.out.drew);exact HK1.out.1;exact HK1.out.2.1;exact HK1.out.2.2.1;exact HK1.out.2.2.2;rintro e w2 ⟨rfl,r0,r1,r2,l2,b2⟩;have HB2:Hid (Below w.heap.size w w2):=b2;have HK2:Hid (w.heap.size<w2.heap.size∧w2.cell? ⟨w.heap.size,0,none⟩=some (.int .i64 a)∧w2.cell? ⟨w.heap.size,1,none⟩=some (.int .i64 b)∧w2.cell? ⟨w.heap.size,2,none⟩=some (.int .i64 c)):=⟨l2,r0,r1,r2⟩;clear b2)
      |(go_at_call 202;clear t3;refine (HC.out.next (N:=w.heap.size) (x:= .int .i64 a) (y:= .int .i64 b) (z:= .int .i64 c) _ ?_ ?_ ?_ ?_ ?_).mono ?_;(first|exact HB2.out|exact HB2.out.drew);exact HK2.out.1;exact HK2.out.2.1;exact HK2.out.2.2.1;exact HK2.out.2.2.2;rintro e w3 ⟨rfl,u0,u1,u2,l3,b3⟩;have HB3:Hid (Below w.heap.size w w3):=b3;clear b3))
   all_goals go_wp2
   all_goals
    go_returns;refine ⟨iC (by rw [HR.out]),?_⟩;exact HB3.out
theorem jC (a b c:Int) (w:World):
 Calls Tryz.prog 141 #[.agg #[.int .i64 a,.int .i64 b,.int .i64 c]] w fun e w'=>e= .returned (.string (aT a b c))∧Below w.heap.size w w':=by
 refine wA a b c w (fun m=> ?_) (fun m=> ?_) (fun m=> ?_)<;>(obtain ⟨a0,a1,b0,b1,c0,c1⟩:=dH m)
 · exact fun w1 _=>jB a a0 a1 w1
 · exact fun w1 _=>jB b b0 b1 w1
 · exact fun w1 _=>jB c c0 c1 w1
theorem jU {W:World} (h:Lib.TabIs Tryz.prog W "internal/strconv.uint64pow10" .u64 Lib.pow10Tab) (a b c:Int) (w1:World) (hb:Below W.heap.size W w1):
 Calls Tryz.prog 132 #[.agg #[.int .i64 a,.int .i64 b,.int .i64 c]] w1 fun e w'=>e= .returned (.string (aT a b c))∧Below w1.heap.size w1 w':=by
 refine AM a b c w1 (fun m=> ?_) (fun m=> ?_) (fun m=> ?_)<;>(obtain ⟨a0,a1,b0,b1,c0,c1⟩:=dH m)
 · exact jA h w1 hb a a0 a1
 · exact jA h w1 hb b b0 b1
 · exact jA h w1 hb c c0 c1
structure Env (W:World):Prop where
 tab:Lib.TabIs Tryz.prog W "internal/strconv.uint64pow10" .u64 Lib.pow10Tab
theorem dI {W:World} {a:Addr} {v:Value} (h:W.cell? a=some v):a.block<W.heap.size:=by
 rcases Nat.lt_or_ge a.block W.heap.size with h'|h'
 · exact h'
 · simp [World.cell?,Array.getElem?_eq_none h'] at h
theorem Env.below {W w:World} (h:Env W) (hb:Below W.heap.size W w):Env w:={ tab:=Lib.tabBelow_of_tabIs h.tab w hb }
theorem nD (l:List UInt8):(⟨l.toArray⟩:ByteArray).size=l.length:=by show l.toArray.size=_;simp
theorem aX (s:ByteArray):s.data.toList.length=s.size:=rfl
theorem bO {s t:ByteArray} (h:s.toList=t.toList):s=t:=by
 rw [ByteArray.toList_eq,ByteArray.toList_eq] at h;cases s;cases t;simp only [ByteArray.mk.injEq];exact Array.toList_inj.1 h
theorem yS {s:ByteArray} {l:List UInt8} (h:s.data.toList=l):s=⟨l.toArray⟩:=by
 cases s with
 |mk d=>simp only at h;subst h;simp
def eS (a b c x y z:Int):ByteArray:=
 if a=x∧b=y∧c=z then aT a b c else if (a=0∧b=0∧c=0)∧(x=999∧y=999∧z=999) then ⟨#[42]⟩ else if a=0∧b=0∧c=0 then ⟨#[60,61]⟩++aT x y z else
 if x=999∧y=999∧z=999 then ⟨#[62,61]⟩++aT a b c else ((⟨#[62,61]⟩++aT a b c)++⟨#[32,60,61]⟩)++aT x y z
theorem cB (a b c:Int):(aT a b c).size≤11:=by
 unfold aT
 split
 · rename_i h
   obtain ⟨a0,a1,b0,b1,c0,c1⟩:=dH h;have za:=cC a0 a1;have zb:=cC b0 b1;have zc:=cC c0 c1;have zd:(⟨#[46]⟩:ByteArray).size=1:=rfl;rw [bI,bI,bI,bI];omega
 · decide
set_option maxHeartbeats 3200000 in
theorem pA (a b c x y z:Int) (w:World) (he:Env w) (hf:FL w):
 Calls Tryz.prog 235 #[.agg #[.int .i64 a,.int .i64 b,.int .i64 c,.int .i64 x,.int .i64 y,.int .i64 z]] w fun e w'=>e= .returned (.string (eS a b c x y z))∧Below w.heap.size w w':=by
 have hg:=iW;have HPL:Hid (∀ w1,Below w.heap.size w w1→Calls Tryz.prog 132 #[.agg #[.int .i64 a,.int .i64 b,.int .i64 c]] w1 fun e w'=>e= .returned (.string (aT a b c))∧Below w1.heap.size w1 w'):=fun w1 hb=>jU he.tab a b c w1 hb
 have HPH:Hid (∀ w1,Below w.heap.size w w1→Calls Tryz.prog 132 #[.agg #[.int .i64 x,.int .i64 y,.int .i64 z]] w1 fun e w'=>e= .returned (.string (aT x y z))∧Below w1.heap.size w1 w'):=fun w1 hb=>jU he.tab x y z w1 hb
 have HO:Hid (Below w.heap.size w (w.alloc (.cells #[.int .i64 a,.int .i64 b,.int .i64 c,.int .i64 x,.int .i64 y,.int .i64 z] 91))∧Bx6 (w.alloc (.cells #[.int .i64 a,.int .i64 b,.int .i64 c,.int .i64 x,.int .i64 y,.int .i64 z] 91)) w.heap.size a b c x y z):=⟨aD _ _,Bx6.new rfl _ _ _ _ _ _⟩;have HK:Hid (KeepP fun w1=>Below w.heap.size w w1∧Bx6 w1 w.heap.size a b c x y z):=(aG w).and (yL _ _ _ _ _ _ _);obtain ⟨⟨g0,g1,g2⟩,⟨l0,l1,l2⟩,_,_⟩:=hf.below (aD w (.cells #[.int .i64 a,.int .i64 b,.int .i64 c,.int .i64 x,.int .i64 y,.int .i64 z] 91));have e1:=vX a b c x y z;have e2:=vX a b c 0 0 0;have e3:=vX x y z 999 999 999;clear hf he
 by_cases h1:a=x∧b=y∧c=z
 · have HT:Hid (eS a b c x y z=aT a b c):=by unfold Hid eS;rw [if_pos h1]
   rw [decide_eq_true h1] at e1;clear h1 e2 e3
   go_enter Tryz.func235,Tryz.ntmps235
   go_wp2_with (go_at_call 132;refine (HPL.out _ HO.out.1).mono ?_;rintro e w1 ⟨rfl,ok1⟩;have HO1:=aA ok1;clear ok1)
   go_ret;exact ⟨by rw [HT.out];rfl,aB HO.out.1 HO1.out⟩
 rw [decide_eq_false h1] at e1
 by_cases h2:a=0∧b=0∧c=0
 · rw [decide_eq_true h2] at e2
   by_cases h3:x=999∧y=999∧z=999
   · rw [decide_eq_true h3] at e3
     have HT:Hid (eS a b c x y z=⟨#[42]⟩):=by unfold Hid eS;rw [if_neg h1,if_pos ⟨h2,h3⟩]
     clear h1 h2 h3
     go_enter Tryz.func235,Tryz.ntmps235
     go_wp2_with fail
     go_ret;exact ⟨by rw [HT.out];rfl,HO.out.1⟩
   · rw [decide_eq_false h3] at e3
     have HT:Hid (eS a b c x y z=⟨#[60,61]⟩++aT x y z):=by unfold Hid eS;rw [if_neg h1,if_neg (fun h=>h3 h.2),if_pos h2]
     clear h1 h2 h3;have zT:=cB x y z;have z2:(⟨#[60,61]⟩:ByteArray).size=2:=rfl;generalize aT x y z=T at*;have s1:=fun W:World=>run_string_add_sum (P:=Tryz.prog) (w:=W) ⟨#[60,61]⟩ T (by omega)
     clear zT z2
     go_enter Tryz.func235,Tryz.ntmps235
     go_wp2_with (go_at_call 132;refine (HPH.out _ HO.out.1).mono ?_;rintro e w1 ⟨rfl,ok1⟩;have HO1:=aA ok1;clear ok1)
     go_ret;exact ⟨by rw [HT.out];rfl,aB HO.out.1 HO1.out⟩
 · rw [decide_eq_false h2] at e2
   by_cases h3:x=999∧y=999∧z=999
   · rw [decide_eq_true h3] at e3
     have HT:Hid (eS a b c x y z=⟨#[62,61]⟩++aT a b c):=by unfold Hid eS;rw [if_neg h1,if_neg (fun h=>h2 h.1),if_neg h2,if_pos h3]
     clear h1 h2 h3;have zT:=cB a b c;have z2:(⟨#[62,61]⟩:ByteArray).size=2:=rfl;generalize aT a b c=T at*;have s1:=fun W:World=>run_string_add_sum (P:=Tryz.prog) (w:=W) ⟨#[62,61]⟩ T (by omega)
     clear zT z2
     go_enter Tryz.func235,Tryz.ntmps235
     go_wp2_with (go_at_call 132;refine (HPL.out _ HO.out.1).mono ?_;rintro e w1 ⟨rfl,ok1⟩;have HO1:=aA ok1;clear ok1)
     go_ret;exact ⟨by rw [HT.out];rfl,aB HO.out.1 HO1.out⟩
   · rw [decide_eq_false h3] at e3
     have HT:Hid (eS a b c x y z=((⟨#[62,61]⟩++aT a b c)++⟨#[32,60,61]⟩)++aT x y z):=by unfold Hid eS;rw [if_neg h1,if_neg (fun h=>h2 h.1),if_neg h2,if_neg h3]
     have HQL:Hid (∀ w1,(Below w.heap.size w w1∧Bx6 w1 w.heap.size a b c x y z)→Calls Tryz.prog 132 #[.agg #[.int .i64 a,.int .i64 b,.int .i64 c]] w1 fun e w'=>e= .returned (.string (aT a b c))∧Below w1.heap.size w1 w'):=fun w1 h=>HPL.out w1 h.1
     have HQH:Hid (∀ w1,(Below w.heap.size w w1∧Bx6 w1 w.heap.size a b c x y z)→Calls Tryz.prog 132 #[.agg #[.int .i64 x,.int .i64 y,.int .i64 z]] w1 fun e w'=>e= .returned (.string (aT x y z))∧Below w1.heap.size w1 w'):=fun w1 h=>HPH.out w1 h.1
     clear h1 h2 h3;have zT:=cB a b c;have zU:=cB x y z;have z2:(⟨#[62,61]⟩:ByteArray).size=2:=rfl;have z3:(⟨#[32,60,61]⟩:ByteArray).size=3:=rfl;generalize aT a b c=T at*;generalize aT x y z=U at*;have s1:=fun W:World=>run_string_add_sum (P:=Tryz.prog) (w:=W) ⟨#[62,61]⟩ T (by omega)
     have s2:=fun W:World=>run_string_add_sum (P:=Tryz.prog) (w:=W) (⟨#[62,61]⟩++T) ⟨#[32,60,61]⟩ (by rw [bI];omega)
     have s3:=fun W:World=>run_string_add_sum (P:=Tryz.prog) (w:=W) ((⟨#[62,61]⟩++T)++⟨#[32,60,61]⟩) U (by rw [bI,bI];omega)
     clear zT zU z2 z3
     go_enter Tryz.func235,Tryz.ntmps235
     go_wp2_with fail
     refine bA HK (by kernel_rfl) (by kernel_rfl) (by first|exact HO.out|exact HK.out.drew HO.out) ?_;intro C HIN HOUT;clear HO
     repeat
      (with_reducible refine wpQuiet_step (fun K hK=> ?_)
       go_simp
       first
        |(refine hK _ ?_;clear hK K)
        |(apply Exists.intro;refine ⟨fun w1 hC=> ?_,hK _ ?_⟩;(focus ((first|(go_at_call 132;with_reducible exact cI HIN HOUT HK HQL.out w1 hC)|(go_at_call 132;with_reducible exact cI HIN HOUT HK HQH.out w1 hC)|(exact rfl)|(obtain ⟨hb1,k0,k1,k2,k3,k4,k5,k6⟩:=HOUT.out w1 hC;clear hC;go_simp;first|done|exact rfl));done));clear hK K))
     refine wpQuiet_nil ?_;intro wn hC;have HO:=aA (HOUT.out _ hC);clear hC HIN HOUT C;obtain ⟨hb1,k0,k1,k2,k3,k4,k5,k6⟩:=HO.out
     go_wp2
     go_ret;exact ⟨by rw [HT.out];rfl,HO.out.1⟩
end Go.Proofs.YtpfemjlhklnfoaaGreatDoor
