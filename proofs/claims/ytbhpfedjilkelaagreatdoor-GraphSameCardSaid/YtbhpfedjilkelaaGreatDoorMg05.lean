/- Gf1, Gf2, Gf3, Gv1, Pk2, Rd0, Ct0, Srt: their declarations that are needed, laid in one text, remarks and blanks left out. -/
import Derived.OneCell
import Derived.Shelf.SlSortCmp.NoneTotal
import Derived.Sort.OwnSorted
import Derived.Test.YtbhpfedjilkelaaGreatDoorMg04
namespace Go.Proofs.YtbhpfedjilkelaaGreatDoor
open Go.RowKit
set_option maxRecDepth 100000
noncomputable def cF {α:Type} (p:α→Bool) (L:List α):Int:=match L.findIdx? p with
 |some i=>(i:Int)
 |none=> -1
theorem iR {α:Type} {p:α→Bool} {L:List α} {k:Nat} (hk:k<L.length) (h:p L[k]=true) (hall:∀ j (_:j<k) (h1:j<L.length),p L[j]=false):cF p L=k:=by
 have e:L.findIdx? p=some k:=by
  rw [List.findIdx?_eq_some_iff_getElem];exact ⟨hk,h,fun j hj=>by rw [hall j hj (by omega)];simp⟩
 unfold cF;rw [e]
theorem iS {α:Type} {p:α→Bool} {L:List α} (hall:∀ j (h1:j<L.length),p L[j]=false):cF p L= -1:=by
 have e:L.findIdx? p=none:=by
  rw [List.findIdx?_eq_none_iff];intro d hd;obtain ⟨i,hi,rfl⟩:=List.getElem_of_mem hd;exact hall i hi
 unfold cF;rw [e]
theorem fZ {α:Type} (p:α→Bool) (L:List α):(0≤cF p L∧L.any p=true)∨(cF p L= -1∧L.any p=false):=by
 cases e:L.findIdx? p with
 |none=>
  refine Or.inr ⟨by unfold cF;rw [e],?_⟩;rw [List.findIdx?_eq_none_iff] at e;rw [List.any_eq_false];exact fun x hx=>by rw [e x hx];simp
 |some k=>
  refine Or.inl ⟨by unfold cF;rw [e];exact Int.natCast_nonneg k,?_⟩;rw [List.findIdx?_eq_some_iff_getElem] at e;obtain ⟨hk,h,_⟩:=e;exact List.any_eq_true.2 ⟨_,List.getElem_mem hk,h⟩
set_option maxHeartbeats 1600000 in
theorem tL {L:List Eg} {v:Value} {w:World} {u1:Value} {p:Eg→Bool} (h:EdgesAt w v L) (hz:L.length≤9223372036854775807) (hc:∀ w1,Below w.heap.size w w1→∀ x ∈ L,Calls Tryz.prog 168 #[.agg #[.string x.lb,.int .i64 x.to],u1] w1 fun e w'=>e= .returned (.bool (p x))∧Below w1.heap.size w1 w'):
 Calls Tryz.prog 216 #[v,.func (.func 168) #[] #[u1]] w fun e w'=>e= .returned (.int .i64 (cF p L))∧Below w.heap.size w w':=by
 have HS:Hid (∀ w1,Below w.heap.size w w1→EdgesAt w1 v L):=fun w1 hb=>h.below hb
 have HC:Hid (∀ w1,Below w.heap.size w w1→∀ x ∈ L,Calls Tryz.prog 168 #[.agg #[.string x.lb,.int .i64 x.to],u1] w1 fun e w'=>e= .returned (.bool (p x))∧Below w1.heap.size w1 w'):=hc;obtain ⟨ad,cap,rfl⟩:=h.sl;clear h hc
 go_enter Tryz.func216,Tryz.ntmps216
 go_wp2_with fail
 go_loopw [8] (fun i wr=>∃ k:Nat,k≤L.length∧i= .int .i64 k∧Below w.heap.size w wr∧∀ j (_:j<k) (h1:j<L.length),p L[j]=false) (fun i _=>L.length - (intOf i).toNat)
 case atStart=>exact ⟨0,Nat.zero_le _,rfl,Below.refl _ _,fun j h=>by omega⟩
 case round=>
  obtain ⟨k,hk,rfl,hb,hall⟩:=hrel;have HALL:=aA hall;have HB:=aA hb;clear hall
  by_cases hlt:k<L.length
  · obtain ⟨ad',cap',e,_,hcs⟩:=HS.out wr hb
    cases e
    obtain ⟨g,o,rfl,hg,hcz⟩:∃ g o,ad=some ⟨g,o,none⟩∧g<wr.heap.size∧∀ i (h:i<L.length),EgIn wr g (o+i*2) L[i]:=by
     rcases hcs with h|h
     · rw [h] at hlt;simp at hlt
     · exact h
    clear hcs;obtain ⟨⟨c0,c1⟩,hgg⟩:=hcz k hlt;have HCC:=aA (HC.out wr hb _ (List.getElem_mem hlt));have HY:Hid (p L[k]=true→cF p L=k):=fun h=>iR hlt h HALL.out
    have HN:Hid (p L[k]=false→∀ j (_:j<k+1) (h1:j<L.length),p L[j]=false):=fun h j hj h1=>by
     rcases Nat.lt_or_ge j k with hjk|hjk
     · exact HALL.out j hjk h1
     · obtain rfl:j=k:=by omega
       exact h
    clear hcz hb;cases hq:p L[k] with
    |true=>
     have HR:=aA (HY.out hq);rw [hq] at HCC;clear HY HN HALL hq
     go_wp2_with (go_at_call 168;refine HCC.out.mono ?_;rintro x w1 ⟨rfl,ok⟩)
     go_ret;exact ⟨Sc.aY HR.out.symm,aB HB.out ok⟩
    |false=>
     have HR:=aA (HN.out hq);rw [hq] at HCC;clear HY HN HALL hq
     go_wp2_with (go_at_call 168;refine HCC.out.mono ?_;rintro x w1 ⟨rfl,ok⟩)
     exact ⟨⟨k+1,by omega,by go_num,aB HB.out ok,HR.out⟩,by simp [intOf];omega⟩
  · have hke:k=L.length:=by omega
    subst hke;have HR:Hid (cF p L= -1):=iS fun j h1=>HALL.out j h1 h1
    clear hb
    go_wp2
    go_ret;exact ⟨Sc.aY HR.out.symm,HB.out⟩
set_option maxHeartbeats 800000 in
theorem tM {L:List Eg} {v:Value} {w:World} {u1:Value} {p:Eg→Bool} (h:EdgesAt w v L) (hz:L.length≤9223372036854775807) (hc:∀ w1,Below w.heap.size w w1→∀ x ∈ L,Calls Tryz.prog 168 #[.agg #[.string x.lb,.int .i64 x.to],u1] w1 fun e w'=>e= .returned (.bool (p x))∧Below w1.heap.size w1 w'):
 Calls Tryz.prog 167 #[v,.func (.func 168) #[] #[u1]] w fun e w'=>e= .returned (.bool (L.any p))∧Below w.heap.size w w':=by
 have HC:=aA (tL h hz hc);obtain ⟨ad,cap,rfl⟩:=h.sl;clear h hc
 rcases fZ p L with ⟨h1,h2⟩|⟨h1,h2⟩
 · have hd:decide (cF p L≥0)=true:=decide_eq_true h1
   rw [h2];generalize cF p L=r at*;clear h2
   go_enter Tryz.func167,Tryz.ntmps167
   go_wp2_with (go_at_call 216;refine HC.out.mono ?_;rintro x w1 ⟨rfl,ok⟩)
   go_ret;exact ⟨rfl,ok⟩
 · rw [h1] at HC
   rw [h2];clear h1 h2
   go_enter Tryz.func167,Tryz.ntmps167
   go_wp2_with (go_at_call 216;refine HC.out.mono ?_;rintro x w1 ⟨rfl,ok⟩)
   go_ret;exact ⟨rfl,ok⟩
set_option maxHeartbeats 1600000 in
theorem tN {L:List Pn} {v:Value} {w:World} {u1:Value} {p:Pn→Bool} (h:PinsAt w v L) (hz:L.length≤9223372036854775807) (hc:∀ w1,Below w.heap.size w w1→∀ x ∈ L,Calls Tryz.prog 170 #[.agg #[.string x.nm,.int .i64 x.a,.int .i64 x.b,.int .i64 x.c],u1] w1 fun e w'=>e= .returned (.bool (p x))∧Below w1.heap.size w1 w'):
 Calls Tryz.prog 217 #[v,.func (.func 170) #[] #[u1]] w fun e w'=>e= .returned (.int .i64 (cF p L))∧Below w.heap.size w w':=by
 have HS:Hid (∀ w1,Below w.heap.size w w1→PinsAt w1 v L):=fun w1 hb=>h.below hb
 have HC:Hid (∀ w1,Below w.heap.size w w1→∀ x ∈ L,Calls Tryz.prog 170 #[.agg #[.string x.nm,.int .i64 x.a,.int .i64 x.b,.int .i64 x.c],u1] w1 fun e w'=>e= .returned (.bool (p x))∧Below w1.heap.size w1 w'):=hc;obtain ⟨ad,cap,rfl⟩:=h.sl;clear h hc
 go_enter Tryz.func217,Tryz.ntmps217
 go_wp2_with fail
 go_loopw [8] (fun i wr=>∃ k:Nat,k≤L.length∧i= .int .i64 k∧Below w.heap.size w wr∧∀ j (_:j<k) (h1:j<L.length),p L[j]=false) (fun i _=>L.length - (intOf i).toNat)
 case atStart=>exact ⟨0,Nat.zero_le _,rfl,Below.refl _ _,fun j h=>by omega⟩
 case round=>
  obtain ⟨k,hk,rfl,hb,hall⟩:=hrel;have HALL:=aA hall;have HB:=aA hb;clear hall
  by_cases hlt:k<L.length
  · obtain ⟨ad',cap',e,_,hcs⟩:=HS.out wr hb
    cases e
    obtain ⟨g,o,rfl,hg,hcz⟩:∃ g o,ad=some ⟨g,o,none⟩∧g<wr.heap.size∧∀ i (h:i<L.length),PnIn wr g (o+i*4) L[i]:=by
     rcases hcs with h|h
     · rw [h] at hlt;simp at hlt
     · exact h
    clear hcs;obtain ⟨⟨c0,c1,c2,c3⟩,hgg⟩:=hcz k hlt;have HCC:=aA (HC.out wr hb _ (List.getElem_mem hlt));have HY:Hid (p L[k]=true→cF p L=k):=fun h=>iR hlt h HALL.out
    have HN:Hid (p L[k]=false→∀ j (_:j<k+1) (h1:j<L.length),p L[j]=false):=fun h j hj h1=>by
     rcases Nat.lt_or_ge j k with hjk|hjk
     · exact HALL.out j hjk h1
     · obtain rfl:j=k:=by omega
       exact h
    clear hcz hb;cases hq:p L[k] with
    |true=>
     have HR:=aA (HY.out hq);rw [hq] at HCC;clear HY HN HALL hq
     go_wp2_with (go_at_call 170;refine HCC.out.mono ?_;rintro x w1 ⟨rfl,ok⟩)
     go_ret;exact ⟨Sc.aY HR.out.symm,aB HB.out ok⟩
    |false=>
     have HR:=aA (HN.out hq);rw [hq] at HCC;clear HY HN HALL hq
     go_wp2_with (go_at_call 170;refine HCC.out.mono ?_;rintro x w1 ⟨rfl,ok⟩)
     exact ⟨⟨k+1,by omega,by go_num,aB HB.out ok,HR.out⟩,by simp [intOf];omega⟩
  · have hke:k=L.length:=by omega
    subst hke;have HR:Hid (cF p L= -1):=iS fun j h1=>HALL.out j h1 h1
    clear hb
    go_wp2
    go_ret;exact ⟨Sc.aY HR.out.symm,HB.out⟩
set_option maxHeartbeats 800000 in
theorem tO {L:List Pn} {v:Value} {w:World} {u1:Value} {p:Pn→Bool} (h:PinsAt w v L) (hz:L.length≤9223372036854775807) (hc:∀ w1,Below w.heap.size w w1→∀ x ∈ L,Calls Tryz.prog 170 #[.agg #[.string x.nm,.int .i64 x.a,.int .i64 x.b,.int .i64 x.c],u1] w1 fun e w'=>e= .returned (.bool (p x))∧Below w1.heap.size w1 w'):
 Calls Tryz.prog 169 #[v,.func (.func 170) #[] #[u1]] w fun e w'=>e= .returned (.bool (L.any p))∧Below w.heap.size w w':=by
 have HC:=aA (tN h hz hc);obtain ⟨ad,cap,rfl⟩:=h.sl;clear h hc
 rcases fZ p L with ⟨h1,h2⟩|⟨h1,h2⟩
 · have hd:decide (cF p L≥0)=true:=decide_eq_true h1
   rw [h2];generalize cF p L=r at*;clear h2
   go_enter Tryz.func169,Tryz.ntmps169
   go_wp2_with (go_at_call 217;refine HC.out.mono ?_;rintro x w1 ⟨rfl,ok⟩)
   go_ret;exact ⟨rfl,ok⟩
 · rw [h1] at HC
   rw [h2];clear h1 h2
   go_enter Tryz.func169,Tryz.ntmps169
   go_wp2_with (go_at_call 217;refine HC.out.mono ?_;rintro x w1 ⟨rfl,ok⟩)
   go_ret;exact ⟨rfl,ok⟩
set_option maxHeartbeats 1600000 in
theorem tP {L:List Nd} {v:Value} {w:World} {u1:Value} {p:Nd→Bool} (h:NodesAt w v L) (hz:L.length≤9223372036854775807) (hc:∀ w1,Below w.heap.size w w1→∀ x ∈ L,∀ vc ve,PinsAt w1 vc x.cx→EdgesAt w1 ve x.ed→Calls Tryz.prog 111 #[.agg #[.string x.nm,.int .i64 x.a,.int .i64 x.b,.int .i64 x.c,vc,ve],u1] w1 fun e w'=>e= .returned (.bool (p x))∧Below w1.heap.size w1 w'):
 Calls Tryz.prog 68 #[v,.func (.func 111) #[] #[u1]] w fun e w'=>e= .returned (.int .i64 (cF p L))∧Below w.heap.size w w':=by
 have HS:Hid (∀ w1,Below w.heap.size w w1→NodesAt w1 v L):=fun w1 hb=>h.below hb
 have HC:Hid (∀ w1,Below w.heap.size w w1→∀ x ∈ L,∀ vc ve,PinsAt w1 vc x.cx→EdgesAt w1 ve x.ed→Calls Tryz.prog 111 #[.agg #[.string x.nm,.int .i64 x.a,.int .i64 x.b,.int .i64 x.c,vc,ve],u1] w1 fun e w'=>e= .returned (.bool (p x))∧Below w1.heap.size w1 w'):=hc;obtain ⟨ad,cap,rfl⟩:=h.sl;clear h hc
 go_enter Tryz.func68,Tryz.ntmps68
 go_wp2_with fail
 go_loopw [8] (fun i wr=>∃ k:Nat,k≤L.length∧i= .int .i64 k∧Below w.heap.size w wr∧∀ j (_:j<k) (h1:j<L.length),p L[j]=false) (fun i _=>L.length - (intOf i).toNat)
 case atStart=>exact ⟨0,Nat.zero_le _,rfl,Below.refl _ _,fun j h=>by omega⟩
 case round=>
  obtain ⟨k,hk,rfl,hb,hall⟩:=hrel;have HALL:=aA hall;have HB:=aA hb;clear hall
  by_cases hlt:k<L.length
  · obtain ⟨ad',cap',e,_,hcs⟩:=HS.out wr hb
    cases e
    obtain ⟨g,o,rfl,hg,hcz⟩:∃ g o,ad=some ⟨g,o,none⟩∧g<wr.heap.size∧∀ i (h:i<L.length),∃ vc ve,NdIn wr g (o+i*6) L[i] vc ve:=by
     rcases hcs with h|h
     · rw [h] at hlt;simp at hlt
     · exact h
    clear hcs;obtain ⟨vc,ve,⟨c0,c1,c2,c3,c4,c5⟩,⟨hpn,hed⟩,hgg⟩:=hcz k hlt;have HCC:=aA (HC.out wr hb _ (List.getElem_mem hlt) vc ve hpn hed);have HY:Hid (p L[k]=true→cF p L=k):=fun h=>iR hlt h HALL.out
    have HN:Hid (p L[k]=false→∀ j (_:j<k+1) (h1:j<L.length),p L[j]=false):=fun h j hj h1=>by
     rcases Nat.lt_or_ge j k with hjk|hjk
     · exact HALL.out j hjk h1
     · obtain rfl:j=k:=by omega
       exact h
    obtain ⟨av,cv,rfl⟩:=hpn.sl;obtain ⟨ae,ce,rfl⟩:=hed.sl;clear hcz hb hpn hed;generalize L[k].cx.length=l1 at*;generalize L[k].ed.length=l2 at*;cases hq:p L[k] with
    |true=>
     have HR:=aA (HY.out hq);rw [hq] at HCC;clear HY HN HALL hq
     go_wp2_with (go_at_call 111;refine HCC.out.mono ?_;rintro x w1 ⟨rfl,ok⟩)
     go_ret;exact ⟨Sc.aY HR.out.symm,aB HB.out ok⟩
    |false=>
     have HR:=aA (HN.out hq);rw [hq] at HCC;clear HY HN HALL hq
     go_wp2_with (go_at_call 111;refine HCC.out.mono ?_;rintro x w1 ⟨rfl,ok⟩)
     exact ⟨⟨k+1,by omega,by go_num,aB HB.out ok,HR.out⟩,by simp [intOf];omega⟩
  · have hke:k=L.length:=by omega
    subst hke;have HR:Hid (cF p L= -1):=iS fun j h1=>HALL.out j h1 h1
    clear hb
    go_wp2
    go_ret;exact ⟨Sc.aY HR.out.symm,HB.out⟩
set_option maxHeartbeats 800000 in
theorem tQ {L:List Nd} {v:Value} {w:World} {u1:Value} {p:Nd→Bool} (h:NodesAt w v L) (hz:L.length≤9223372036854775807) (hc:∀ w1,Below w.heap.size w w1→∀ x ∈ L,∀ vc ve,PinsAt w1 vc x.cx→EdgesAt w1 ve x.ed→Calls Tryz.prog 111 #[.agg #[.string x.nm,.int .i64 x.a,.int .i64 x.b,.int .i64 x.c,vc,ve],u1] w1 fun e w'=>e= .returned (.bool (p x))∧Below w1.heap.size w1 w'):
 Calls Tryz.prog 110 #[v,.func (.func 111) #[] #[u1]] w fun e w'=>e= .returned (.bool (L.any p))∧Below w.heap.size w w':=by
 have HC:=aA (tP h hz hc);obtain ⟨ad,cap,rfl⟩:=h.sl;clear h hc
 rcases fZ p L with ⟨h1,h2⟩|⟨h1,h2⟩
 · have hd:decide (cF p L≥0)=true:=decide_eq_true h1
   rw [h2];generalize cF p L=r at*;clear h2
   go_enter Tryz.func110,Tryz.ntmps110
   go_wp2_with (go_at_call 68;refine HC.out.mono ?_;rintro x w1 ⟨rfl,ok⟩)
   go_ret;exact ⟨rfl,ok⟩
 · rw [h1] at HC
   rw [h2];clear h1 h2
   go_enter Tryz.func110,Tryz.ntmps110
   go_wp2_with (go_at_call 68;refine HC.out.mono ?_;rintro x w1 ⟨rfl,ok⟩)
   go_ret;exact ⟨rfl,ok⟩
theorem dG {x m:Nd} {vc ve uc ue:Value} {N:Nat} {w:World} (hc:PinsAt w vc x.cx) (he:EdgesAt w ve x.ed) (hb:BxNd w N m uc ue) (hd:PinsAt w uc m.cx) (hf:∃ ad k cap,ue= .slice ad k cap) (hz:x.cx.length≤9223372036854775807):
 Calls Tryz.prog 111 #[.agg #[.string x.nm,.int .i64 x.a,.int .i64 x.b,.int .i64 x.c,vc,ve],.pointer (some ⟨N,0,none⟩)] w fun e w'=>e= .returned (.bool (bZ x m))∧Below w.heap.size w w':=by
 have HE:Hid (∀ w1,Below w.heap.size w w1→Calls Tryz.prog 70 #[.agg #[.string x.nm,.int .i64 x.a,.int .i64 x.b,.int .i64 x.c,vc,ve],.agg #[.string m.nm,.int .i64 m.a,.int .i64 m.b,.int .i64 m.c,uc,ue]] w1 fun e w'=>e= .returned (.bool (bZ x m))∧Below w1.heap.size w1 w'):=fun w1 h=>hF (hc.below h) (let ⟨ad,cap,h⟩:=he.sl;⟨ad,_,cap,h⟩) (hd.below h) hf hz
 obtain ⟨av,cv,rfl⟩:=hc.sl;obtain ⟨ae,ce,rfl⟩:=he.sl;obtain ⟨bv,dv,rfl⟩:=hd.sl;obtain ⟨be,ke,de,rfl⟩:=hf;have HB:=aA (aJ _ _ _ _ _ _ hb (aD w (.cells #[.string x.nm,.int .i64 x.a,.int .i64 x.b,.int .i64 x.c,.slice av x.cx.length cv,.slice ae x.ed.length ce] 67)));obtain ⟨⟨k0,k1,k2,k3,k4,k5⟩,k6⟩:=HB.out;clear hc he hd hb hz HB;generalize x.cx.length=l1 at*;generalize x.ed.length=l2 at*;generalize m.cx.length=l3 at*
 go_enter Tryz.func111,Tryz.ntmps111
 go_wp2_with (go_at_call 70;refine (HE.out _ (aD _ _)).mono ?_;rintro e w1 ⟨rfl,ok⟩)
 go_ret;exact ⟨rfl,aB (aD _ _) ok⟩
noncomputable def dC:List Nd→List Nd→Bool
 |_,[]=>false
 |A,n::r=>A.any (fun x=>bZ x n)||dC (A++[n]) r
theorem rN {G:List Nd} {k:Nat} (hk:k<G.length):dC (G.take k) (G.drop k)=((G.take k).any (fun x=>bZ x G[k])||dC (G.take (k+1)) (G.drop (k+1))):=by
 rw [List.drop_eq_getElem_cons hk,List.take_succ_eq_append_getElem hk];rfl
theorem NodesAt.part {w:World} {g o n cap:Nat} {G:List Nd} (hs:∀ i (h:i<G.length),∃ vc ve,NdIn w g (o+i*6) G[i] vc ve) (hg:g<w.heap.size) (hc:G.length≤cap) (hn:n≤G.length):NodesAt w (.slice (some ⟨g,o,none⟩) n cap) (G.take n):=
 ⟨_,cap,by rw [List.length_take,Nat.min_eq_left hn],by rw [List.length_take];omega,Or.inr ⟨g,o,rfl,hg,fun i hi=>by
   rw [List.getElem_take];exact hs i (by rw [List.length_take] at hi;omega)⟩⟩
set_option maxHeartbeats 3200000 in
theorem hI {G:List Nd} {v:Value} {w:World} (hG:NodesAt w v G) (hz:G.length≤9223372036854775807) (hzl:∀ n ∈ G,SzN n):
 Calls Tryz.prog 61 #[v] w fun e w'=>e= .returned (.bool (dC [] G))∧Below w.heap.size w w':=by
 have HS:Hid (∀ w1,Below w.heap.size w w1→NodesAt w1 v G):=fun w1 hb=>hG.below hb
 have HZ:=aA hzl;obtain ⟨ad,cap,rfl,hcap,_⟩:=hG;clear hzl
 go_enter Tryz.func61,Tryz.ntmps61
 go_wp2_with fail
 go_loopw [7] (fun i wr=>∃ k:Nat,k≤G.length∧i= .int .i64 k∧Below w.heap.size w wr∧dC [] G=dC (G.take k) (G.drop k)) (fun i _=>G.length - (intOf i).toNat)
 case atStart=>exact ⟨0,Nat.zero_le _,rfl,Below.refl _ _,rfl⟩
 case round=>
  obtain ⟨k,hk,rfl,hb,hst⟩:=hrel;have HB:=aA hb
  by_cases hlt:k<G.length
  · obtain ⟨ad',cap',e,_,hcs⟩:=HS.out wr hb
    cases e
    obtain ⟨g,o,rfl,hg,hcz⟩:∃ g o,ad=some ⟨g,o,none⟩∧g<wr.heap.size∧∀ i (h:i<G.length),∃ vc ve,NdIn wr g (o+i*6) G[i] vc ve:=by
     rcases hcs with h|h
     · rw [h] at hlt;simp at hlt
     · exact h
    clear hcs;have HPT:Hid (∀ w1,Below wr.heap.size wr w1→NodesAt w1 (.slice (some ⟨g,o,none⟩) k cap) (G.take k)):=fun w1 h1=>(NodesAt.part hcz hg hcap hk).below h1
    obtain ⟨vc,ve,hx⟩:=hcz k hlt
    have HST:Hid (dC [] G=((G.take k).any (fun x=>bZ x G[k])||dC (G.take (k+1)) (G.drop (k+1)))):=by
     unfold Hid;rw [hst,rN hlt]
    have HZK:Hid (∀ x ∈ G.take k,x.cx.length≤9223372036854775807):=fun x hx=>(HZ.out x (List.mem_of_mem_take hx)).1
    have HLT:Hid ((G.take k).length=k):=by unfold Hid;rw [List.length_take];omega
    clear hcz hst hb
    have HCC:Hid (∀ w1,Below wr.heap.size wr w1→BxNd w1 wr.heap.size G[k] vc ve→Calls Tryz.prog 110 #[.slice (some ⟨g,o,none⟩) k cap,.func (.func 111) #[] #[.pointer (some ⟨wr.heap.size,0,none⟩)]] w1 fun e w'=>e= .returned (.bool ((G.take k).any fun x=>bZ x G[k]))∧Below w1.heap.size w1 w'):=fun w1 h1 hbx=>
     tQ (HPT.out w1 h1) (by rw [HLT.out];omega) fun w2 h2 x hxm vd vf h3 h4=>dG h3 h4 (aJ _ _ _ _ _ _ hbx h2) ((hx.2.1.1.below h1).below h2) (let ⟨ad,cap,h⟩:=hx.2.1.2.sl;⟨ad,_,cap,h⟩) (HZK.out x hxm)
    generalize (G.take k).any (fun x=>bZ x G[k])=b at*;obtain ⟨av,cv,rfl⟩:=hx.2.1.1.sl;obtain ⟨ae,ce,rfl⟩:=hx.2.1.2.sl;have HBX:Hid (Below wr.heap.size wr (wr.alloc (.cells #[.string G[k].nm,.int .i64 G[k].a,.int .i64 G[k].b,.int .i64 G[k].c,.slice av G[k].cx.length cv,.slice ae G[k].ed.length ce] 67))∧BxNd (wr.alloc (.cells #[.string G[k].nm,.int .i64 G[k].a,.int .i64 G[k].b,.int .i64 G[k].c,.slice av G[k].cx.length cv,.slice ae G[k].ed.length ce] 67)) wr.heap.size G[k] (.slice av G[k].cx.length cv) (.slice ae G[k].ed.length ce)):=⟨aD _ _,BxNd.new rfl _ _ _⟩;obtain ⟨⟨x0,x1,x2,x3,x4,x5⟩,_,x6⟩:=hx;clear HPT HZK HLT;generalize G[k]=x at*;generalize x.cx.length=l1 at*;generalize x.ed.length=l2 at*;have hkc:(k:Int)≤cap:=by omega
    cases b
    · have HR:Hid (dC [] G=dC (G.take (k+1)) (G.drop (k+1))):=HST.out
      clear HST
      go_wp2_with (go_at_call 110;refine (HCC.out _ HBX.out.1 HBX.out.2).mono ?_;rintro e w1 ⟨rfl,ok⟩)
      exact ⟨⟨k+1,by omega,by go_num,aB HB.out (aB (aD _ _) ok),HR.out⟩,by simp [intOf];omega⟩
    · have HR:Hid (dC [] G=true):=HST.out
      clear HST
      go_wp2_with (go_at_call 110;refine (HCC.out _ HBX.out.1 HBX.out.2).mono ?_;rintro e w1 ⟨rfl,ok⟩)
      go_ret;exact ⟨aC HR.out.symm,aB HB.out (aB (aD _ _) ok)⟩
  · have hke:k=G.length:=by omega
    subst hke;have HR:Hid (dC [] G=false):=by unfold Hid;rw [hst,List.drop_length];rfl
    clear hb hst
    go_wp2
    go_ret;exact ⟨aC HR.out.symm,HB.out⟩
def vR (G:List Nd) (t:Int):ByteArray:=match G[t.toNat]? with
 |some n=>n.nm
 |none=>⟨#[]⟩
theorem tR {G:List Nd} {t:Nat} (h:t<G.length):vR G (t:Int)=G[t].nm:=by
 unfold vR;rw [Int.toNat_natCast,List.getElem?_eq_getElem h]
def dY (G:List Nd) (e:Eg):Bool:=decide ((vR G e.to).toList=e.lb.toList)
def iT (G:List Nd):Bool:=G.all fun n=>n.ed.all (dY G)
def InG (G:List Nd):Prop:=∀ n ∈ G,∀ e ∈ n.ed,0≤e.to∧e.to<(G.length:Int)
theorem kF {α:Type} {p:α→Bool} {L:List α} {k:Nat} (hk:k<L.length):(L.drop k).all p=(p L[k]&&(L.drop (k+1)).all p):=by
 rw [List.drop_eq_getElem_cons hk];rfl
set_option maxHeartbeats 6400000 in
theorem eH {G:List Nd} {v:Value} {w:World} (hG:NodesAt w v G) (hz:G.length≤9223372036854775807) (hzl:∀ n ∈ G,SzN n) (hin:InG G):
 Calls Tryz.prog 60 #[.agg #[v]] w fun e w'=>e= .returned (.bool (iT G))∧Below w.heap.size w w':=by
 have HS:Hid (∀ w1,Below w.heap.size w w1→NodesAt w1 v G):=fun w1 hb=>hG.below hb
 have HZ:=aA hzl;have HIN:=aA hin;obtain ⟨ad,cap,rfl,hcap,_⟩:=hG;have HB0:Hid (Below w.heap.size w (w.alloc (.cells #[.slice ad G.length cap] 55))∧BxG (w.alloc (.cells #[.slice ad G.length cap] 55)) w.heap.size (.slice ad G.length cap)):=⟨aD _ _,BxG.new rfl _⟩;clear hzl hin
 go_enter Tryz.func60,Tryz.ntmps60
 go_wp2_with fail
 go_loopw [10] (fun i wr=>∃ k:Nat,k≤G.length∧i= .int .i64 k∧(Below w.heap.size w wr∧BxG wr w.heap.size (.slice ad G.length cap))∧iT G=(G.drop k).all fun n=>n.ed.all (dY G)) (fun i _=>G.length - (intOf i).toNat)
 case atStart=>exact ⟨0,Nat.zero_le _,rfl,HB0.out,rfl⟩
 case round=>
  clear HB0;obtain ⟨k,hk,rfl,hb,hst⟩:=hrel;have HB:=aA hb
  by_cases hlt:k<G.length
  · obtain ⟨ad',cap',e,_,hcs⟩:=HS.out wr hb.1
    cases e
    obtain ⟨g,o,rfl,hg,hcz⟩:∃ g o,ad=some ⟨g,o,none⟩∧g<wr.heap.size∧∀ i (h:i<G.length),∃ vc ve,NdIn wr g (o+i*6) G[i] vc ve:=by
     rcases hcs with h|h
     · rw [h] at hlt;simp at hlt
     · exact h
    clear hcs;have HCZ:Hid (∀ w1,Below wr.heap.size wr w1→∀ i (h:i<G.length),∃ vc ve,NdIn w1 g (o+i*6) G[i] vc ve):=fun w1 h1 i hi=>let ⟨a,b,h⟩:=hcz i hi;⟨a,b,h.below h1⟩
    obtain ⟨vc,ve,hx⟩:=hcz k hlt
    have HST:Hid (iT G=(G[k].ed.all (dY G)&&(G.drop (k+1)).all fun n=>n.ed.all (dY G))):=by
     unfold Hid;rw [hst,kF hlt]
    have hle:=(HZ.out _ (List.getElem_mem hlt)).2;have HEI:=aA (HIN.out _ (List.getElem_mem hlt));clear hcz hst;obtain ⟨av,cv,rfl⟩:=hx.2.1.1.sl;obtain ⟨ae,ce,rfl⟩:=hx.2.1.2.sl;have HED:Hid (∀ w1,Below wr.heap.size wr w1→EdgesAt w1 (.slice ae G[k].ed.length ce) G[k].ed):=fun w1 h1=>hx.2.1.2.below h1
    obtain ⟨⟨x0,x1,x2,x3,x4,x5⟩,_,x6⟩:=hx;have HBB:Hid (Below wr.heap.size wr (wr.alloc (.cells #[.string G[k].nm,.int .i64 G[k].a,.int .i64 G[k].b,.int .i64 G[k].c,.slice av G[k].cx.length cv,.slice ae G[k].ed.length ce] 67))∧BxG (wr.alloc (.cells #[.string G[k].nm,.int .i64 G[k].a,.int .i64 G[k].b,.int .i64 G[k].c,.slice av G[k].cx.length cv,.slice ae G[k].ed.length ce] 67)) w.heap.size (.slice (some ⟨g,o,none⟩) G.length cap)):=⟨aD _ _,aS _ _ _ _ hb.2 (aD _ _)⟩;obtain ⟨_,y0,y1⟩:=hb;generalize G[k]=x at*;generalize hlx:x.ed.length=le at*;have HLX:=aA hlx;clear hlx;generalize x.cx.length=l1 at*;obtain ⟨wa,rfl⟩:∃ q,q=wr:=⟨wr,rfl⟩
    go_wp2_with fail
    clear x0 x1 x2 x3 x4 x5 x6 y0 y1
    go_loopw [17] (fun j wq=>∃ m:Nat,m≤le∧j= .int .i64 m∧(Below wa.heap.size wa wq∧BxG wq w.heap.size (.slice (some ⟨g,o,none⟩) G.length cap))∧x.ed.all (dY G)=(x.ed.drop m).all (dY G)) (fun j _=>le - (intOf j).toNat)
    case atStart=>exact ⟨0,Nat.zero_le _,rfl,HBB.out,rfl⟩
    case round=>
     clear HBB;obtain ⟨m,hm,rfl,hb2,hst2⟩:=hrel;have HB2:=aA hb2
     by_cases hml:m<le
     · have hmx:m<x.ed.length:=by have:=HLX.out;omega
       obtain ⟨gp,op,rfl,hcp,hei⟩:∃ gp op,ae=some ⟨gp,op,none⟩∧le≤ce∧EgIn wr gp (op+m*2) x.ed[m]:=by
        obtain ⟨a1,c1,hv,hc,hl⟩:=HED.out wr hb2.1;cases hv
        rcases hl with h|⟨g,o,rfl,_,hs⟩
        · rw [h] at hmx;cases hmx
        · exact ⟨g,o,rfl,by have:=HLX.out;omega,hs m hmx⟩
       obtain ⟨ht0,ht1⟩:=HEI.out _ (List.getElem_mem hmx);obtain ⟨t,ht⟩:=Int.eq_ofNat_of_zero_le ht0;have htl:t<G.length:=by omega
       obtain ⟨ud,uf,hnd⟩:=HCZ.out wr hb2.1 t htl
       have HST2:Hid (x.ed.all (dY G)=(dY G x.ed[m]&&(x.ed.drop (m+1)).all (dY G))):=by
        unfold Hid;rw [hst2,kF hmx]
       have HLE:Hid (dY G x.ed[m]=decide (G[t].nm.toList=x.ed[m].lb.toList)):=by
        unfold Hid dY;rw [ht,tR htl]
       generalize x.ed[m]=e at*;generalize dY G e=le1 at*;obtain ⟨elb,eto⟩:=e
       simp only at ht HLE
       subst ht;clear hst2 ht0 ht1;have HK:Hid (KeepP fun w1=>(Below wa.heap.size wa w1∧BxG w1 w.heap.size (.slice (some ⟨g,o,none⟩) G.length cap))∧BxEg w1 wr.heap.size ⟨elb,(t:Int)⟩∧NdIn w1 g (o+t*6) G[t] ud uf):=((aO _).and (aS _ _)).and ((rC _ _).and (fun _ _ h hb=>h.below hb))
       have HO:Hid ((Below wa.heap.size wa (wr.alloc (.cells #[.string elb,.int .i64 (t:Int)] 77))∧BxG (wr.alloc (.cells #[.string elb,.int .i64 (t:Int)] 77)) w.heap.size (.slice (some ⟨g,o,none⟩) G.length cap))∧BxEg (wr.alloc (.cells #[.string elb,.int .i64 (t:Int)] 77)) wr.heap.size ⟨elb,(t:Int)⟩∧NdIn (wr.alloc (.cells #[.string elb,.int .i64 (t:Int)] 77)) g (o+t*6) G[t] ud uf):=
        ⟨⟨aB hb2.1 (aD _ _),aS _ _ _ _ hb2.2 (aD _ _)⟩,BxEg.new rfl ⟨elb,(t:Int)⟩,hnd.below (aD _ _)⟩
       obtain ⟨⟨e0,e1⟩,e6⟩:=hei
       simp only at e0 e1
       have hti:(t:Int)<G.length:=by omega
       have ht0:(0:Int)≤t:=by omega
       clear hnd hb2;generalize G[t]=y at*
       by_cases hnm:y.nm.toList=elb.toList
       · have HR:Hid (x.ed.all (dY G)=(x.ed.drop (m+1)).all (dY G)):=by unfold Hid;rw [HST2.out,HLE.out,decide_eq_true hnm];rfl
         clear HST2 HLE
         go_wp2_with fail
         clear e0 e1 e6;refine bE HK (by kernel_rfl) (by kernel_rfl) (by first|exact HO.out|exact HK.out.drew HO.out) ?_;intro C HIN HOUT;clear HO
         repeat
          (with_reducible refine wpQuiet_step (fun K hK=> ?_)
           go_simp
           first
            |(refine hK _ ?_;clear hK K)
            |(apply Exists.intro;refine ⟨fun w1 hC=> ?_,hK _ ?_⟩;(focus ((first|(exact rfl)|(obtain ⟨⟨hb1,y0,y1⟩,⟨⟨z0,z1⟩,z2⟩,⟨⟨x0,x1,x2,x3,x4,x5⟩,_,x6⟩⟩:=HOUT.out w1 hC;clear hC;go_simp;first|done|exact rfl));done));clear hK K))
         refine wpQuiet_nil ?_;intro wn hC;have HO:=aA (HOUT.out _ hC);clear hC HIN HOUT C;obtain ⟨⟨hb1,y0,y1⟩,⟨⟨z0,z1⟩,z2⟩,⟨⟨x0,x1,x2,x3,x4,x5⟩,_,x6⟩⟩:=HO.out
         go_wp2
         exact ⟨⟨m+1,by omega,by go_num,HO.out.1,HR.out⟩,by simp [intOf];omega⟩
       · have HR:Hid (iT G=false):=by unfold Hid;rw [HST.out,HST2.out,HLE.out,decide_eq_false hnm];rfl
         have hnm2:(y.nm.toList==elb.toList)=false:=by simp [hnm]
         clear HST2 HLE
         go_wp2_with fail
         clear e0 e1 e6;refine bE HK (by kernel_rfl) (by kernel_rfl) (by first|exact HO.out|exact HK.out.drew HO.out) ?_;intro C HIN HOUT;clear HO
         repeat
          (with_reducible refine wpQuiet_step (fun K hK=> ?_)
           go_simp
           first
            |(refine hK _ ?_;clear hK K)
            |(apply Exists.intro;refine ⟨fun w1 hC=> ?_,hK _ ?_⟩;(focus ((first|(exact rfl)|(obtain ⟨⟨hb1,y0,y1⟩,⟨⟨z0,z1⟩,z2⟩,⟨⟨x0,x1,x2,x3,x4,x5⟩,_,x6⟩⟩:=HOUT.out w1 hC;clear hC;go_simp;first|done|exact rfl));done));clear hK K))
         refine wpQuiet_nil ?_;intro wn hC;have HO:=aA (HOUT.out _ hC);clear hC HIN HOUT C;obtain ⟨⟨hb1,y0,y1⟩,⟨⟨z0,z1⟩,z2⟩,⟨⟨x0,x1,x2,x3,x4,x5⟩,_,x6⟩⟩:=HO.out
         go_wp2
         go_ret;exact ⟨aC HR.out.symm,aB HB.out.1 hb1⟩
     · have hme:m=le:=by omega
       subst hme
       have HR:Hid (iT G=(G.drop (k+1)).all fun n=>n.ed.all (dY G)):=by
        have e:x.ed.drop m=[]:=by rw [←HLX.out,List.drop_length]
        unfold Hid;rw [HST.out,hst2,e];rfl
       clear hst2 hb2
       go_wp2
       exact ⟨⟨k+1,by omega,by go_num,⟨aB HB.out.1 HB2.out.1,HB2.out.2⟩,HR.out⟩,by simp [intOf];omega⟩
  · have hke:k=G.length:=by omega
    subst hke;have HR:Hid (iT G=true):=by unfold Hid;rw [hst,List.drop_length];rfl
    clear hst;obtain ⟨_,y0,y1⟩:=hb
    go_wp2
    go_ret;exact ⟨aC HR.out.symm,HB.out.1⟩
theorem cX (f:Nat→Nat):∀ (n:Nat) (S:List Nat),S.Nodup→(∀ x ∈ S,x<n)→(S.map f).sum≤((List.range n).map f).sum
 |0,S,_,h=>by
  cases S with
  |nil=>simp
  |cons a r=>exact absurd (h a (by simp)) (by omega)
 |n+1,S,hd,h=>by
  rw [List.range_succ,List.map_append,List.sum_append]
  by_cases hn:n ∈ S
  · have hp:=List.perm_cons_erase hn
    have e:(S.map f).sum=f n+((S.erase n).map f).sum:=by
     rw [(hp.map f).sum_nat]
     simp
    have ih:=cX f n (S.erase n) (hd.erase n) (fun x hx=>by
     have q:=(hd.mem_erase_iff).1 hx
     have:=h x q.2
     omega)
    simp only [List.map_cons,List.map_nil,List.sum_cons,List.sum_nil];omega
  · have ih:=cX f n S hd (fun x hx=>by
     have:=h x hx
     have:x≠n:=fun e=>hn (e ▸ hx)
     omega)
    simp only [List.map_cons,List.map_nil,List.sum_cons,List.sum_nil];omega
theorem gA:∀ (L:List Nat),(L.map fun _=>1).sum=L.length
 |[]=>rfl
 |a::r=>by rw [List.map_cons,List.sum_cons,gA r,List.length_cons];omega
theorem mB {n:Nat} {S:List Nat} (hd:S.Nodup) (h:∀ x ∈ S,x<n):S.length≤n:=by
 have q:=cX (fun _=>1) n S hd h;rw [gA,gA,List.length_range] at q;exact q
def iU (n:Nat) (S:List Nat) (t:Int):List Nat:=if 0≤t∧t<(n:Int)∧t.toNat ∉ S then S++[t.toNat] else S
def iV (n:Nat) (S:List Nat) (es:List Eg):List Nat:=es.foldl (fun S e=>iU n S e.to) S
def edA (G:List Nd) (i:Nat):List Eg:=match G[i]? with
 |some n=>n.ed
 |none=>[]
theorem vS {G:List Nd} {i:Nat} (h:i<G.length):edA G i=G[i].ed:=by
 unfold edA;rw [List.getElem?_eq_getElem h]
def rO (G:List Nd):Nat→Nat→List Nat→List Nat
 |0,_,S=>S
 |f+1,i,S=>match S[i]? with
  |none=>S
  |some q=>rO G f (i+1) (iV G.length S (edA G q))
def vT (G:List Nd):List Nat:=rO G G.length 0 [0]
def eU (G:List Nd):List Nat:=if G.length=0 then [] else (List.range G.length).filter fun i=>decide (i ∈ vT G)
structure RI (n:Nat) (S:List Nat):Prop where
 nd:S.Nodup
 lt:∀ x ∈ S,x<n
theorem RI.len {n:Nat} {S:List Nat} (h:RI n S):S.length≤n:=mB h.nd h.lt
theorem RI.one {n:Nat} (h:0<n):RI n [0]:=⟨by simp,fun x hx=>by rw [List.mem_singleton.1 hx];exact h⟩
theorem rP {n:Nat} {S:List Nat} {t:Int} (h:¬ (0≤t∧t<(n:Int))):iU n S t=S:=by
 unfold iU;rw [if_neg fun q=>h ⟨q.1,q.2.1⟩]
theorem rQ {n:Nat} {S:List Nat} {t:Nat} (h:t ∈ S):iU n S (t:Int)=S:=by
 unfold iU;rw [if_neg fun q=>q.2.2 (by rw [Int.toNat_natCast];exact h)]
theorem rR {n:Nat} {S:List Nat} {t:Nat} (ht:t<n) (h:t ∉ S):iU n S (t:Int)=S++[t]:=by
 unfold iU;rw [if_pos ⟨by omega,by omega,by rw [Int.toNat_natCast];exact h⟩,Int.toNat_natCast]
theorem RI.snoc {n:Nat} {S:List Nat} {t:Nat} (h:RI n S) (ht:t<n) (hn:t ∉ S):RI n (S++[t]):=
 ⟨List.nodup_append.2 ⟨h.nd,by simp,fun a ha b hb e=>hn (by rw [List.mem_singleton.1 hb] at e;exact e ▸ ha)⟩,fun x hx=>by
   rcases List.mem_append.1 hx with q|q
   · exact h.lt x q
   · rw [List.mem_singleton.1 q];exact ht⟩
theorem pA {n:Nat} {S:List Nat} {es:List Eg} {j:Nat} (hj:j<es.length):iV n S (es.drop j)=iV n (iU n S es[j].to) (es.drop (j+1)):=by
 rw [List.drop_eq_getElem_cons hj];rfl
structure RJ (G:List Nd) (i:Nat) (S:List Nat):Prop where
 ri:RI G.length S
 le:i≤S.length
 go:rO G (G.length - i) i S=vT G
theorem RJ.one {G:List Nd} (h:0<G.length):RJ G 0 [0]:=⟨RI.one h,Nat.zero_le _,rfl⟩
theorem RJ.done {G:List Nd} {S:List Nat} (h:RJ G S.length S):S=vT G:=by
 rw [←h.go];cases hn:G.length - S.length with
 |zero=>rfl
 |succ f=>
  unfold rO;rw [List.getElem?_eq_none (Nat.le_refl _)]
theorem RJ.next {G:List Nd} {i:Nat} {S S':List Nat} (h:RJ G i S) (hi:i<S.length) (hS:iV G.length S (edA G S[i])=S') (hr:RI G.length S') (hl:i+1≤S'.length):RJ G (i+1) S':=by
 refine ⟨hr,hl,?_⟩;have hn:=h.ri.len;rw [←h.go,show G.length - i=(G.length - (i+1))+1 by omega]
 conv=>rhs;unfold rO
 rw [List.getElem?_eq_getElem hi]
 simp only
 rw [hS]
def vU (G:List Nd):Nat:=((List.range G.length).map fun i=>(edA G i).length).sum
def gU (G:List Nd) (S:List Nat):Nat:=(S.map fun i=>(edA G i).length).sum
theorem RI.deg {G:List Nd} {S:List Nat} (h:RI G.length S) (i:Nat):gU G (S.take i)≤vU G:=
 cX _ _ _ (List.Nodup.sublist (List.take_sublist i S) h.nd) fun x hx=>h.lt x (List.mem_of_mem_take hx)
theorem pB {G:List Nd} {S:List Nat} {i:Nat} (hi:i<S.length):gU G (S.take (i+1))=gU G (S.take i)+(edA G S[i]).length:=by
 unfold gU;rw [List.take_succ_eq_append_getElem hi,List.map_append,List.sum_append]
 simp
theorem tS {l:List Nat} {R:Nat→Nat→Prop} {Q:Int→Int→Prop} (hq:∀ a b:Nat,R a b→Q (a:Int) (b:Int)) (h:l.Pairwise R):(l.map fun x:Nat=>(x:Int)).Pairwise Q:=List.pairwise_map.2 (h.imp fun {a b} r=>hq a b r)
theorem tT {n:Nat} {S:List Nat} (h:RI n S):(S.map fun x:Nat=>(x:Int)).mergeSort (fun x y=>decide (x≤y))=((List.range n).filter fun i=>decide (i ∈ S)).map fun x:Nat=>(x:Int):=by
 have h1:((S.map fun x:Nat=>(x:Int)).mergeSort (fun x y=>decide (x≤y))).Pairwise fun a b=>decide (a≤b)=true:=List.pairwise_mergeSort (fun a b c=>by simp only [decide_eq_true_eq];omega) (fun a b=>by simp only [Bool.or_eq_true,decide_eq_true_eq];omega) _
 have h2:(((List.range n).filter fun i=>decide (i ∈ S)).map fun x:Nat=>(x:Int)).Pairwise fun a b=>decide (a≤b)=true:=
  tS (R:=fun a b=>a<b) (fun a b hab=>by rw [decide_eq_true_eq];omega) (List.pairwise_lt_range.filter _)
 refine List.Perm.eq_of_pairwise (le:=fun a b=>decide (a≤b)=true) (fun a b _ _ q1 q2=>by rw [decide_eq_true_eq] at q1 q2;omega) h1 h2 ?_;refine (List.mergeSort_perm _ _).trans ?_;refine List.Perm.map _ ?_;refine (List.perm_ext_iff_of_nodup h.nd (List.Nodup.sublist List.filter_sublist List.nodup_range)).2 fun x=> ?_
 rw [List.mem_filter,List.mem_range,decide_eq_true_eq];exact ⟨fun q=>⟨h.lt x q,q⟩,fun q=>q.2⟩
structure Dp where
 nm:ByteArray
 rg:List Sp
theorem SpansAt.sl {w:World} {v:Value} {L:List Sp} (h:SpansAt w v L):∃ ad cap,v= .slice ad L.length cap:=by
 obtain ⟨ad,cap,rfl,_⟩:=h;exact ⟨ad,cap,rfl⟩
def DpIn (w:World) (g o:Nat) (d:Dp) (u:Value):Prop:=w.cell? ⟨g,o,none⟩=some (.string d.nm)∧w.cell? ⟨g,o+1,none⟩=some u∧(SpansC w u d.rg∧d.rg.length≤9223372036854775807)∧g<w.heap.size
def DepsAt (w:World) (v:Value) (L:List Dp):Prop:=∃ ad cap,v= .slice ad L.length cap∧L.length≤cap∧(L=[]∨∃ g o,ad=some ⟨g,o,none⟩∧g<w.heap.size∧∀ i (h:i<L.length),∃ u,DpIn w g (o+i*2) L[i] u)
theorem DpIn.below {w w':World} {g o:Nat} {d:Dp} {u:Value} (h:DpIn w g o d u) (hb:Below w.heap.size w w'):DpIn w' g o d u:=
 ⟨(hb.cell (p:=⟨g,o,none⟩) h.2.2.2).trans h.1,(hb.cell (p:=⟨g,o+1,none⟩) h.2.2.2).trans h.2.1,⟨⟨h.2.2.1.1.1.below hb,h.2.2.1.1.2⟩,h.2.2.1.2⟩,Nat.lt_of_lt_of_le h.2.2.2 hb.size⟩
theorem DepsAt.below {w w':World} {v:Value} {L:List Dp} (h:DepsAt w v L) (hb:Below w.heap.size w w'):DepsAt w' v L:=by
 obtain ⟨ad,cap,hv,hc,hl⟩:=h;refine ⟨ad,cap,hv,hc,hl.imp id ?_⟩;rintro ⟨g,o,ha,hg,hs⟩;exact ⟨g,o,ha,Nat.lt_of_lt_of_le hg hb.size,fun i hi=>(hs i hi).imp fun u hu=>hu.below hb⟩
theorem rS (v:Value) (L:List Dp):KeepP fun w1=>DepsAt w1 v L:=fun _ _ h hb=>h.below hb
def BxD (w:World) (N:Nat) (s:ByteArray) (u:Value):Prop:=w.cell? ⟨N,0,none⟩=some (.string s)∧w.cell? ⟨N,1,none⟩=some u∧N<w.heap.size
theorem tU (N:Nat) (s:ByteArray) (u:Value):KeepP fun w1=>BxD w1 N s u:=fun _ _ h hb=>
 ⟨(hb.cell (p:=⟨N,0,none⟩) h.2.2).trans h.1,(hb.cell (p:=⟨N,1,none⟩) h.2.2).trans h.2.1,Nat.lt_of_lt_of_le h.2.2 hb.size⟩
theorem BxD.new {w:World} {N:Nat} (hN:w.heap.size=N) (s:ByteArray) (u:Value):BxD (w.alloc (.cells #[.string s,u] 89)) N s u:=by
 subst hN;exact ⟨by simp,by simp,by simp⟩
theorem DepsAt.sl {w:World} {v:Value} {L:List Dp} (h:DepsAt w v L):∃ ad cap,v= .slice ad L.length cap:=by
 obtain ⟨ad,cap,rfl,_⟩:=h;exact ⟨ad,cap,rfl⟩
theorem vV {w w':World} {B:Nat} {e:TypeId} {z:Nat} {v:Value} {n:Nat} {xs:List Value} (h:w.ownsRow B e z v n xs) (hk:∀ g,v.ownBlock=some g→w'.heap[g]? =w.heap[g]?):w'.ownsRow B e z v n xs:=by
 refine ⟨h.1,?_⟩
 rcases h.2 with hn|⟨g,cap,cur,rfl,hB,hgg,r⟩
 · exact Or.inl hn
 · exact Or.inr ⟨g,cap,cur,rfl,hB,(hk g rfl).trans hgg,r⟩
theorem cR {w w':World} {B:Nat} {e:TypeId} {z:Nat} {v:Value} {n:Nat} {xs:List Value} (h:w.ownsRow B e z v n xs) (hb:Below w.heap.size w w'):w'.ownsRow B e z v n xs:=vV h fun g hg=>hb.block g (h.lt g hg).2
theorem kG {w:World} {B C:Nat} {e:TypeId} {z:Nat} {v:Value} {n:Nat} {xs:List Value} (h:w.ownsRow B e z v n xs) (hc:C≤B):w.ownsRow C e z v n xs:=by
 refine ⟨h.1,?_⟩
 rcases h.2 with hn|⟨g,cap,cur,hv,hB,r⟩
 · exact Or.inl hn
 · exact Or.inr ⟨g,cap,cur,hv,Nat.le_trans hc hB,r⟩
theorem vW {w:World} {B B':Nat} {e e':TypeId} {z z':Nat} {v v':Value} {n n':Nat} {xs xs':List Value} (h:w.ownsRow B e z v n xs) (h':w.ownsRow B' e' z' v' n' xs') (hne:e≠e') {g:Nat} (hg:v.ownBlock=some g):v'.ownBlock≠some g:=by
 intro hg'
 rcases h.2 with ⟨rfl,_⟩|⟨g1,cap,cur,rfl,_,hgg,_⟩
 · cases hg
 · rcases h'.2 with ⟨rfl,_⟩|⟨g2,cap',cur',rfl,_,hgg',_⟩
   · cases hg'
   · cases hg
     cases hg';rw [hgg] at hgg';injection hgg' with e1
     injection e1 with _ e2 _
     exact hne e2
theorem cS {w w' w1:World} {row:Option Nat} (hb:Below w.heap.size w w') (hg:w'.grownBy w1 row):w.grownBy w1 row:=
 ⟨hg.os.trans hb.os,hg.tape.trans hb.tape,hg.output.trans hb.output,Nat.le_trans hb.size hg.size,fun k hk hn=>(hg.block k (Nat.lt_of_lt_of_le hk hb.size) hn).trans (hb.block k hk)⟩
theorem dH {B:Nat} {w w1:World} {own:Option Nat} (hg:w.grownBy w1 own) (h:∀ g,own=some g→B≤g) (hB:B≤w.heap.size):Below B w w1:=⟨hg.os,hg.tape,hg.output,hg.size,fun k hk=>hg.block k (by omega) (fun e=>by have:=h k e.symm;omega)⟩
theorem rT {B:Nat} {wx:World} {elt slt:TypeId} {z:Value} {sz bs n:Nat} {v:Value} {xs:List Value} {ops:Array Oper} {o:Oper} {f:Act} {K:Act→World→Prop} {Q:Exit→Act→World→Prop} {E:Prop}
 (hinfo:(Tryz.prog.info? elt).map (fun i=>(i.zero,i.size,i.bytes))=some (some z,sz,bs)) (hund:Tryz.prog.underlying slt=some (.slice elt)) (hzc:z.cells.size=sz) (hsz:0<sz) (hbs:bs≤1000)
 (hgd:o.guard=none) (s t:Operand) (ho:o.op= .call { callee:= .builtin .append,args:= #[s,t],argTypes:= #[slt,slt] }) (hs:f.eval s=v)
 (hown:wx.ownsRow B elt sz v n xs) (hB:B≤wx.heap.size) (cs:Array Value) (hcs:cs.size=sz) (hone:∀ u ∈ cs.toList,u.oneCell'=true) {M:Nat} (hM:wx.heap.size=M) (hx:f.eval t= .slice (some ⟨M,0,none⟩) 1 1) (hlen:n≤1000000000)
 (h:∀ v1 w1,w1.ownsRow B elt sz v1 (n+1) (xs++cs.toList)→(wx.alloc (.cells cs elt)).grownBy w1 v.ownBlock→(v1.ownBlock=v.ownBlock∨v1.ownBlock=some (wx.heap.size+1))→K (f.put o.dst v1) w1):
 if Region.wanted o (yielded ops f.tmps)=true then Oper.wp Tryz.prog o f (wx.alloc (.cells cs elt)) K Q else E:=by
 have hw:Region.wanted o (yielded ops f.tmps)=true:=by simp [Region.wanted,hgd]
 rw [if_pos hw];subst hM;obtain ⟨i0,hi,hz0,hz1,hz2⟩:=Sc.bQ hinfo;have hsz1:(wx.alloc (.cells cs elt)).heap.size=wx.heap.size+1:=by simp
 have hbb:(n+1)*bs≤140737488355328:=by
  have:=Nat.mul_le_mul (show n+1≤1000000001 by omega) hbs
  omega
 obtain ⟨v1,w1,hr,hown1,hg1,_,hat⟩:=run_append_own_at (P:=Tryz.prog) (wx.alloc (.cells cs elt)) B slt o.type elt i0 z sz bs hund hi hz0 hz1 hz2 hzc hsz v n xs (hown.alloc _) ⟨wx.heap.size,0,none⟩ 1 1 cs.toList (by rw [Array.length_toList,hcs,Nat.one_mul])
  (World.news_of_block (cs:=cs) (t:=elt) (fr:=(0,0)) (by show (wx.heap.push _)[wx.heap.size]? =_;rw [Array.getElem?_push,if_pos rfl])) hone (by unfold maxLen;omega) hbb (by omega)
 unfold Oper.wp execOp;simp only [ho,resolve,invoke,builtin,Sem.run_bind,Sem.run_pure,Result.andThen_ok,List.map_toArray,List.map_cons,List.map_nil,hs,hx,hr];exact h v1 w1 hown1 hg1 (by rw [hsz1] at hat;exact hat)
theorem tV {B:Nat} {wx:World} {elt slt:TypeId} {z:Value} {sz bs n m c:Nat} {v:Value} {xs news:List Value} {ad:Addr} {ops:Array Oper} {rest:List Oper} {o:Oper} {f:Act} {Q:Exit→Act→World→Prop}
 (hinfo:(Tryz.prog.info? elt).map (fun i=>(i.zero,i.size,i.bytes))=some (some z,sz,bs)) (hund:Tryz.prog.underlying slt=some (.slice elt)) (hzc:z.cells.size=sz) (hsz:0<sz) (hbs:bs≤1000)
 (hgd:o.guard=none) (s t:Operand) (ho:o.op= .call { callee:= .builtin .append,args:= #[s,t],argTypes:= #[slt,slt] }) (hs:f.eval s=v)
 (hown:wx.ownsRow B elt sz v n xs) (hB:B≤wx.heap.size) (hx:f.eval t= .slice (some ad) m c) (hl:news.length=m*sz) (hnews:∀ j u,news[j]? =some u→wx.cell? (ad.add j)=some u) (hone:∀ u ∈ news,u.oneCell'=true) (hlen:n+m≤1000000000)
 (h:∀ v1 w1,w1.ownsRow B elt sz v1 (n+m) (xs++news)→wx.grownBy w1 v.ownBlock→(v1.ownBlock=v.ownBlock∨v1.ownBlock=some wx.heap.size)→wpList Tryz.prog ops Q rest (f.put o.dst v1) w1):
 wpList Tryz.prog ops Q (o::rest) f wx:=by
 obtain ⟨i0,hi,hz0,hz1,hz2⟩:=Sc.bQ hinfo
 have hbb:(n+m)*bs≤140737488355328:=by
  have:=Nat.mul_le_mul hlen hbs
  omega
 refine wpList_append_own_at _ hgd s t slt ho B elt i0 z sz bs hund hi hz0 hz1 hz2 hzc hsz v n xs hs hown ad m c news hx hl hnews hone (by unfold maxLen;omega) hbb hB ?_;intro v1 w1 hown1 hg1 _ hat;exact h v1 w1 hown1 hg1 hat
end Go.Proofs.YtbhpfedjilkelaaGreatDoor
namespace Go.Proofs.YtbhpfedjilkelaaGreatDoor
open Go.Shelf Go.RowKit Go.Lib Go.Sort
set_option maxRecDepth 100000
theorem fB {α:Type} (enc:α→List Value) (k:Nat) (hk:∀ x,(enc x).length=k) (l:List α):(l.flatMap enc).length=l.length*k:=by
 induction l with
 |nil=>simp
 |cons x t ih=>rw [List.flatMap_cons,List.length_append,hk,ih,List.length_cons,Nat.succ_mul];omega
variable {α:Type} [Inhabited α]
theorem bS (enc:α→List Value) (k:Nat) (hk:∀ x,(enc x).length=k):∀ (l:List α) (i r:Nat),i<l.length→r<k→(l.flatMap enc)[i*k+r]? =(enc (l[i]!))[r]?
 |[],i,r,h,_=>by cases h
 |x::t,0,r,_,hr=>by
  rw [List.flatMap_cons,List.getElem?_append_left (by rw [hk];omega)]
  simp
 |x::t,i+1,r,h,hr=>by
  rw [List.flatMap_cons,List.getElem?_append_right (by rw [hk,Nat.succ_mul];omega),hk];have e:(i+1)*k+r - k=i*k+r:=by rw [Nat.succ_mul];omega
  rw [e,bS enc k hk t i r (by simpa using h) hr]
  simp
theorem kH (enc:α→List Value) (k:Nat) (hk:∀ x,(enc x).length=k) (hk0:0<k) (d:Array α):(flatK enc k d).toList=d.toList.flatMap enc:=by
 apply List.ext_getElem?;intro t
 by_cases ht:t<d.size*k
 · have hq:t / k<d.toList.length:=by rw [Array.length_toList];exact (Nat.div_lt_iff_lt_mul hk0).2 ht
   have hr:=Nat.mod_lt t hk0
   have hf:(flatK enc k d).toList[t]? =some ((enc d[t / k]!)[t % k]!):=by
    rw [Array.getElem?_toList]
    have:(flatK enc k d)[t]! =(enc d[t / k]!)[t % k]! :=get_flatK _ _ _ _ ht
    rw [←this,getElem!_pos _ t (by simpa using ht)];exact Array.getElem?_eq_getElem (by simpa using ht)
   have hg:=bS enc k hk d.toList (t / k) (t % k) hq hr;rw [Nat.mul_comm,Nat.div_add_mod] at hg;have hd:d.toList[t / k]! =d[t / k]! :=by rw [getElem!_pos d (t / k) (by simpa using hq),getElem!_pos d.toList (t / k) hq];simp
   rw [hf,hg,hd,List.getElem?_eq_getElem (by rw [hk];exact hr),getElem!_pos _ (t % k) (by rw [hk];exact hr)]
 · rw [List.getElem?_eq_none (by simp;omega),List.getElem?_eq_none (by rw [fB enc k hk];simp;omega)]
theorem pC (enc:α→List Value) (k:Nat) (hk:∀ x,(enc x).length=k) (hk0:0<k) {w:World} {g:Nat} {cur:Array Value} {e:TypeId} {fs:List α} (hb:w.heap[g]? =some (.cells cur e (0,0))) (ht:cur.toList.take (fs.length*k)=fs.flatMap enc):HoldsK enc k w g 0 fs.toArray:=by
 intro j hj;have hj':j<fs.length*k:=by simpa using hj
 refine ⟨?_,by simp [World.frozen?,hb]⟩;have h1:(cur.toList.take (fs.length*k))[j]? =(fs.flatMap enc)[j]? :=by rw [ht]
 rw [List.getElem?_take_of_lt hj'] at h1;simp only [World.cell?,hb,Nat.zero_add];simp only [Option.isSome_none,Bool.false_eq_true,if_false];rw [←Array.getElem?_toList,h1];have e:=kH enc k hk hk0 fs.toArray;rw [List.toList_toArray] at e;rw [←e,Array.getElem?_toList,getElem!_pos _ j hj];exact Array.getElem?_eq_getElem hj
theorem rU (enc:α→List Value) (k:Nat) {w:World} {g n:Nat} {os:Array Obj} {cur:Array Value} {e:TypeId} {fr:Nat×Nat} (d:Array α) (hb:w.heap[g]? =some (.cells cur e fr)):
 (sortWorldK enc k w g 0 n d os).heap[g]? =some (.cells (putCells id 0 (flatK enc k d) cur) e fr):=by
 have hg:g<w.heap.size:=(Array.getElem?_eq_some_iff.1 hb).1;unfold sortWorldK putRowK;rw [heap_grow_old _ _ (by simpa using hg)];simp [putRow,mapBlock,Sort.ahead,Array.getElem?_modify,hb,onCells]
theorem pD (enc:α→List Value) (k:Nat) {w:World} {g n:Nat} {os:Array Obj} (d:Array α):w.grownBy (sortWorldK enc k w g 0 n d os) (some g):=by
 unfold sortWorldK putRowK;refine ⟨rfl,rfl,rfl,by simp,fun j hj hne=> ?_⟩;rw [heap_grow_old _ _ (by simpa using hj)]
 have:g≠j:=fun e=>hne (by rw [e])
 simp [putRow,mapBlock,Sort.ahead,Array.getElem?_modify,this]
theorem rV (cur:Array Value) (F:Array Value) (h:F.size≤cur.size):(putCells id 0 F cur).toList.take F.size=F.toList:=by
 apply List.ext_getElem?;intro j
 by_cases hj:j<F.size
 · rw [List.getElem?_take_of_lt hj,Array.getElem?_toList,Array.getElem?_toList]
   simp [putCells,hj,show j<cur.size by omega]
 · rw [List.getElem?_take_eq_none (by omega),List.getElem?_eq_none (by simp;omega)]
theorem pE {d d':Array α} (h:PermIn 0 d.size d d'):d'.toList.Perm d.toList:=by
 obtain ⟨hsz,_,hperm⟩:=h;have e1:d'.extract 0 d.size=d':=by rw [←hsz];exact Array.extract_size
 rw [e1,Array.extract_size] at hperm;exact hperm
theorem kI {lt:α→α→Bool} {d d':Array α} (h:PermIn 0 d.size d d') (hS:SortedIn lt 0 d.size d'):d'.toList.Pairwise fun x y=>lt y x=false:=by
 have hsz:=h.1;rw [List.pairwise_iff_getElem];intro i j hi hj hij;have hi':i<d'.size:=by simpa using hi
 have hj':j<d'.size:=by simpa using hj
 have:=hS i j (Nat.zero_le _) hij (by omega)
 rw [getElem!_pos d' j hj',getElem!_pos d' i hi'] at this
 simpa using this
theorem rW {ρ:Ren} (L:SlLaysF0.n6 Tryz.prog ρ) (k:Nat) (hk0:0<k) (aE:∀ w,(isAgg (ρ.t 24)).run Tryz.prog w= .ok true w) (zE:∀ w,(Go.sizeOf (ρ.t 24)).run Tryz.prog w= .ok k w) (enc:α→List Value) (hk:∀ x,(enc x).length=k) (h1:∀ x,∀ v ∈ enc x,v.oneCell'=true) (cf:α→α→Int) (hO:SWO (ltOf cf)) (g:Nat)
 (eg:∀ args w,(callFunc g args).run Tryz.prog w= .ok (.enter g args) w) (hcmp:∀ (x y:α) (W:World),Calls Tryz.prog g #[.agg (enc x).toArray,.agg (enc y).toArray] W fun e w'=>e= .returned (.int .i64 (cf x y))∧∃ q os',w'=grow (W.drewN q) os')
 {w:World} {base:Nat} {T:TypeId} {v:Value} {fs:List α} (hown:w.ownsRow base T k v fs.length (fs.flatMap enc)) (hz:fs.length<4611686018427387904):
 Calls Tryz.prog (ρ.f 6) #[v,.func (.func g) #[] #[]] w fun e w'=>e= .returned (.tuple #[])∧∃ ts:List α,ts.Perm fs∧(ts.Pairwise fun x y=>ltOf cf y x=false)∧w'.ownsRow base T k v ts.length (ts.flatMap enc)∧w.grownBy w' v.ownBlock:=by
 rcases hown.2 with ⟨hv,hn⟩|⟨b,cap,cur,hv,hB,hgg,hc1,hc2,hc3,hc4⟩
 · obtain rfl:fs=[]:=List.length_eq_zero_iff.1 hn
   subst hv;refine (AnyF.slices_SortFunc_none L none 0 (.func (.func g) #[] #[]) w).mono ?_;rintro e w' ⟨rfl,rfl⟩;exact ⟨rfl,[],List.Perm.refl _,List.Pairwise.nil,hown,⟨rfl,rfl,rfl,Nat.le_refl _,fun _ _ _=>rfl⟩⟩
 · subst hv
   have hH:=pC enc k hk hk0 hgg hc4;have hcon:=AnyQ.slices_SortFunc L k aE zE enc hk h1 cf hO g #[] b 0 cap fs.toArray w eg (fun m os dk _ x y=>by simpa using hcmp x y _) hH (Array.getElem?_eq_some_iff.1 hgg).1 (by simp;omega);simp only [List.size_toArray] at hcon;refine hcon.mono ?_;rintro e w' ⟨rfl,d',n,os,hp,hs,rfl⟩;have hp':PermIn 0 fs.toArray.size fs.toArray d':=by simpa using hp
   have hs':SortedIn (ltOf cf) 0 fs.toArray.size d':=by simpa using hs
   have hpl:=pE hp';rw [List.toList_toArray] at hpl;refine ⟨rfl,d'.toList,hpl,kI hp' hs',⟨by rw [fB enc k hk],.inr ⟨b,cap,_,by rw [hpl.length_eq],hB,rU enc k d' hgg,by rw [hpl.length_eq];exact hc1,hc2,by simp [putCells,hc3],?_⟩⟩,pD enc k d'⟩;have e:=kH enc k hk hk0 d';have hsz:(flatK enc k d').size=d'.toList.length*k:=by simp
   rw [←hsz,rV cur _ (by rw [hsz,hc3,hpl.length_eq];exact Nat.mul_le_mul_right k hc1),e]
end Go.Proofs.YtbhpfedjilkelaaGreatDoor
