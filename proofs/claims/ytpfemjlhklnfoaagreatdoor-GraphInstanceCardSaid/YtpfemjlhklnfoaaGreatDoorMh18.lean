/- Gf1, Gf2, Gf3, Gv1, Gv2, We1: their declarations that are needed, laid in one text, remarks and blanks left out. -/
import Derived.Test.YtpfemjlhklnfoaaGreatDoorShelfI
import Derived.Sort.OwnSortedInts
import Derived.Test.YtpfemjlhklnfoaaGreatDoorMh17
namespace Go.Proofs.YtpfemjlhklnfoaaGreatDoor
open Go.RowKit
set_option maxRecDepth 100000
noncomputable def dR {α:Type} (p:α→Bool) (L:List α):Int:=match L.findIdx? p with
 |some i=>(i:Int)
 |none=> -1
theorem mL {α:Type} {p:α→Bool} {L:List α} {k:Nat} (hk:k<L.length) (h:p L[k]=true) (hall:∀ j (_:j<k) (h1:j<L.length),p L[j]=false):dR p L=k:=by
 have e:L.findIdx? p=some k:=by
  rw [List.findIdx?_eq_some_iff_getElem];exact ⟨hk,h,fun j hj=>by rw [hall j hj (by omega)];simp⟩
 unfold dR;rw [e]
theorem mM {α:Type} {p:α→Bool} {L:List α} (hall:∀ j (h1:j<L.length),p L[j]=false):dR p L= -1:=by
 have e:L.findIdx? p=none:=by
  rw [List.findIdx?_eq_none_iff];intro d hd;obtain ⟨i,hi,rfl⟩:=List.getElem_of_mem hd;exact hall i hi
 unfold dR;rw [e]
theorem kJ {α:Type} (p:α→Bool) (L:List α):(0≤dR p L∧L.any p=true)∨(dR p L= -1∧L.any p=false):=by
 cases e:L.findIdx? p with
 |none=>
  refine Or.inr ⟨by unfold dR;rw [e],?_⟩;rw [List.findIdx?_eq_none_iff] at e;rw [List.any_eq_false];exact fun x hx=>by rw [e x hx];simp
 |some k=>
  refine Or.inl ⟨by unfold dR;rw [e];exact Int.natCast_nonneg k,?_⟩;rw [List.findIdx?_eq_some_iff_getElem] at e;obtain ⟨hk,h,_⟩:=e;exact List.any_eq_true.2 ⟨_,List.getElem_mem hk,h⟩
set_option maxHeartbeats 1600000 in
theorem KI {L:List Eg} {v:Value} {w:World} {u1:Value} {p:Eg→Bool} (h:EdgesAt w v L) (hz:L.length≤9223372036854775807) (hc:∀ w1,Below w.heap.size w w1→∀ x ∈ L,Calls Tryz.prog 168 #[.agg #[.string x.lb,.int .i64 x.to],u1] w1 fun e w'=>e= .returned (.bool (p x))∧Below w1.heap.size w1 w'):
 Calls Tryz.prog 216 #[v,.func (.func 168) #[] #[u1]] w fun e w'=>e= .returned (.int .i64 (dR p L))∧Below w.heap.size w w':=by
 have HS:Hid (∀ w1,Below w.heap.size w w1→EdgesAt w1 v L):=fun w1 hb=>h.below hb
 have HC:Hid (∀ w1,Below w.heap.size w w1→∀ x ∈ L,Calls Tryz.prog 168 #[.agg #[.string x.lb,.int .i64 x.to],u1] w1 fun e w'=>e= .returned (.bool (p x))∧Below w1.heap.size w1 w'):=hc;obtain ⟨ad,cap,rfl⟩:=h.sl;clear h hc
 go_enter Tryz.func216,Tryz.ntmps216
 go_wp2_with fail
 go_loopw [8] (fun i wr=>∃ k:Nat,k≤L.length∧i= .int .i64 k∧Below w.heap.size w wr∧∀ j (_:j<k) (h1:j<L.length),p L[j]=false) (fun i _=>L.length - (intOf i).toNat)
 case atStart=>exact ⟨0,Nat.zero_le _,rfl,Below.refl _ _,fun j h=>by omega⟩
 case round=>
  obtain ⟨k,hk,rfl,hb,hall⟩:=hrel;have HALL:=aA hall;have HB:=aA hb;clear hall
  by_cases hlt:k<L.length
  · obtain ⟨ad',cap',e,_,hcs⟩:=HS.out wr hb
    cases e
    obtain ⟨g,o,rfl,hg,hcz⟩:∃ g o,ad=some ⟨g,o,none⟩∧g<wr.heap.size∧∀ i (h:i<L.length),EgIn wr g (o+i*2) L[i]:=by
     rcases hcs with h|h
     · rw [h] at hlt;simp at hlt
     · exact h
    clear hcs;obtain ⟨⟨c0,c1⟩,hgg⟩:=hcz k hlt;have HCC:=aA (HC.out wr hb _ (List.getElem_mem hlt));have HY:Hid (p L[k]=true→dR p L=k):=fun h=>mL hlt h HALL.out
    have HN:Hid (p L[k]=false→∀ j (_:j<k+1) (h1:j<L.length),p L[j]=false):=fun h j hj h1=>by
     rcases Nat.lt_or_ge j k with hjk|hjk
     · exact HALL.out j hjk h1
     · obtain rfl:j=k:=by omega
       exact h
    clear hcz hb;cases hq:p L[k] with
    |true=>
     have HR:=aA (HY.out hq);rw [hq] at HCC;clear HY HN HALL hq
     go_wp2_with (go_at_call 168;refine HCC.out.mono ?_;rintro x w1 ⟨rfl,ok⟩)
     go_ret;exact ⟨Sc.bE HR.out.symm,aB HB.out ok⟩
    |false=>
     have HR:=aA (HN.out hq);rw [hq] at HCC;clear HY HN HALL hq
     go_wp2_with (go_at_call 168;refine HCC.out.mono ?_;rintro x w1 ⟨rfl,ok⟩)
     exact ⟨⟨k+1,by omega,by go_num,aB HB.out ok,HR.out⟩,by simp [intOf];omega⟩
  · have hke:k=L.length:=by omega
    subst hke;have HR:Hid (dR p L= -1):=mM fun j h1=>HALL.out j h1 h1
    clear hb
    go_wp2
    go_ret;exact ⟨Sc.bE HR.out.symm,HB.out⟩
set_option maxHeartbeats 800000 in
theorem zO {L:List Eg} {v:Value} {w:World} {u1:Value} {p:Eg→Bool} (h:EdgesAt w v L) (hz:L.length≤9223372036854775807) (hc:∀ w1,Below w.heap.size w w1→∀ x ∈ L,Calls Tryz.prog 168 #[.agg #[.string x.lb,.int .i64 x.to],u1] w1 fun e w'=>e= .returned (.bool (p x))∧Below w1.heap.size w1 w'):
 Calls Tryz.prog 167 #[v,.func (.func 168) #[] #[u1]] w fun e w'=>e= .returned (.bool (L.any p))∧Below w.heap.size w w':=by
 have HC:=aA (KI h hz hc);obtain ⟨ad,cap,rfl⟩:=h.sl;clear h hc
 rcases kJ p L with ⟨h1,h2⟩|⟨h1,h2⟩
 · have hd:decide (dR p L≥0)=true:=decide_eq_true h1
   rw [h2];generalize dR p L=r at*;clear h2
   go_enter Tryz.func167,Tryz.ntmps167
   go_wp2_with (go_at_call 216;refine HC.out.mono ?_;rintro x w1 ⟨rfl,ok⟩)
   go_ret;exact ⟨rfl,ok⟩
 · rw [h1] at HC
   rw [h2];clear h1 h2
   go_enter Tryz.func167,Tryz.ntmps167
   go_wp2_with (go_at_call 216;refine HC.out.mono ?_;rintro x w1 ⟨rfl,ok⟩)
   go_ret;exact ⟨rfl,ok⟩
set_option maxHeartbeats 1600000 in
theorem KJ {L:List Pn} {v:Value} {w:World} {u1:Value} {p:Pn→Bool} (h:PinsAt w v L) (hz:L.length≤9223372036854775807) (hc:∀ w1,Below w.heap.size w w1→∀ x ∈ L,Calls Tryz.prog 170 #[.agg #[.string x.nm,.int .i64 x.a,.int .i64 x.b,.int .i64 x.c],u1] w1 fun e w'=>e= .returned (.bool (p x))∧Below w1.heap.size w1 w'):
 Calls Tryz.prog 217 #[v,.func (.func 170) #[] #[u1]] w fun e w'=>e= .returned (.int .i64 (dR p L))∧Below w.heap.size w w':=by
 have HS:Hid (∀ w1,Below w.heap.size w w1→PinsAt w1 v L):=fun w1 hb=>h.below hb
 have HC:Hid (∀ w1,Below w.heap.size w w1→∀ x ∈ L,Calls Tryz.prog 170 #[.agg #[.string x.nm,.int .i64 x.a,.int .i64 x.b,.int .i64 x.c],u1] w1 fun e w'=>e= .returned (.bool (p x))∧Below w1.heap.size w1 w'):=hc;obtain ⟨ad,cap,rfl⟩:=h.sl;clear h hc
 go_enter Tryz.func217,Tryz.ntmps217
 go_wp2_with fail
 go_loopw [8] (fun i wr=>∃ k:Nat,k≤L.length∧i= .int .i64 k∧Below w.heap.size w wr∧∀ j (_:j<k) (h1:j<L.length),p L[j]=false) (fun i _=>L.length - (intOf i).toNat)
 case atStart=>exact ⟨0,Nat.zero_le _,rfl,Below.refl _ _,fun j h=>by omega⟩
 case round=>
  obtain ⟨k,hk,rfl,hb,hall⟩:=hrel;have HALL:=aA hall;have HB:=aA hb;clear hall
  by_cases hlt:k<L.length
  · obtain ⟨ad',cap',e,_,hcs⟩:=HS.out wr hb
    cases e
    obtain ⟨g,o,rfl,hg,hcz⟩:∃ g o,ad=some ⟨g,o,none⟩∧g<wr.heap.size∧∀ i (h:i<L.length),PnIn wr g (o+i*4) L[i]:=by
     rcases hcs with h|h
     · rw [h] at hlt;simp at hlt
     · exact h
    clear hcs;obtain ⟨⟨c0,c1,c2,c3⟩,hgg⟩:=hcz k hlt;have HCC:=aA (HC.out wr hb _ (List.getElem_mem hlt));have HY:Hid (p L[k]=true→dR p L=k):=fun h=>mL hlt h HALL.out
    have HN:Hid (p L[k]=false→∀ j (_:j<k+1) (h1:j<L.length),p L[j]=false):=fun h j hj h1=>by
     rcases Nat.lt_or_ge j k with hjk|hjk
     · exact HALL.out j hjk h1
     · obtain rfl:j=k:=by omega
       exact h
    clear hcz hb;cases hq:p L[k] with
    |true=>
     have HR:=aA (HY.out hq);rw [hq] at HCC;clear HY HN HALL hq
     go_wp2_with (go_at_call 170;refine HCC.out.mono ?_;rintro x w1 ⟨rfl,ok⟩)
     go_ret;exact ⟨Sc.bE HR.out.symm,aB HB.out ok⟩
    |false=>
     have HR:=aA (HN.out hq);rw [hq] at HCC;clear HY HN HALL hq
     go_wp2_with (go_at_call 170;refine HCC.out.mono ?_;rintro x w1 ⟨rfl,ok⟩)
     exact ⟨⟨k+1,by omega,by go_num,aB HB.out ok,HR.out⟩,by simp [intOf];omega⟩
  · have hke:k=L.length:=by omega
    subst hke;have HR:Hid (dR p L= -1):=mM fun j h1=>HALL.out j h1 h1
    clear hb
    go_wp2
    go_ret;exact ⟨Sc.bE HR.out.symm,HB.out⟩
set_option maxHeartbeats 800000 in
theorem zP {L:List Pn} {v:Value} {w:World} {u1:Value} {p:Pn→Bool} (h:PinsAt w v L) (hz:L.length≤9223372036854775807) (hc:∀ w1,Below w.heap.size w w1→∀ x ∈ L,Calls Tryz.prog 170 #[.agg #[.string x.nm,.int .i64 x.a,.int .i64 x.b,.int .i64 x.c],u1] w1 fun e w'=>e= .returned (.bool (p x))∧Below w1.heap.size w1 w'):
 Calls Tryz.prog 169 #[v,.func (.func 170) #[] #[u1]] w fun e w'=>e= .returned (.bool (L.any p))∧Below w.heap.size w w':=by
 have HC:=aA (KJ h hz hc);obtain ⟨ad,cap,rfl⟩:=h.sl;clear h hc
 rcases kJ p L with ⟨h1,h2⟩|⟨h1,h2⟩
 · have hd:decide (dR p L≥0)=true:=decide_eq_true h1
   rw [h2];generalize dR p L=r at*;clear h2
   go_enter Tryz.func169,Tryz.ntmps169
   go_wp2_with (go_at_call 217;refine HC.out.mono ?_;rintro x w1 ⟨rfl,ok⟩)
   go_ret;exact ⟨rfl,ok⟩
 · rw [h1] at HC
   rw [h2];clear h1 h2
   go_enter Tryz.func169,Tryz.ntmps169
   go_wp2_with (go_at_call 217;refine HC.out.mono ?_;rintro x w1 ⟨rfl,ok⟩)
   go_ret;exact ⟨rfl,ok⟩
set_option maxHeartbeats 1600000 in
theorem KK {L:List Nd} {v:Value} {w:World} {u1:Value} {p:Nd→Bool} (h:NodesAt w v L) (hz:L.length≤9223372036854775807) (hc:∀ w1,Below w.heap.size w w1→∀ x ∈ L,∀ vc ve,PinsAt w1 vc x.cx→EdgesAt w1 ve x.ed→Calls Tryz.prog 111 #[.agg #[.string x.nm,.int .i64 x.a,.int .i64 x.b,.int .i64 x.c,vc,ve],u1] w1 fun e w'=>e= .returned (.bool (p x))∧Below w1.heap.size w1 w'):
 Calls Tryz.prog 68 #[v,.func (.func 111) #[] #[u1]] w fun e w'=>e= .returned (.int .i64 (dR p L))∧Below w.heap.size w w':=by
 have HS:Hid (∀ w1,Below w.heap.size w w1→NodesAt w1 v L):=fun w1 hb=>h.below hb
 have HC:Hid (∀ w1,Below w.heap.size w w1→∀ x ∈ L,∀ vc ve,PinsAt w1 vc x.cx→EdgesAt w1 ve x.ed→Calls Tryz.prog 111 #[.agg #[.string x.nm,.int .i64 x.a,.int .i64 x.b,.int .i64 x.c,vc,ve],u1] w1 fun e w'=>e= .returned (.bool (p x))∧Below w1.heap.size w1 w'):=hc;obtain ⟨ad,cap,rfl⟩:=h.sl;clear h hc
 go_enter Tryz.func68,Tryz.ntmps68
 go_wp2_with fail
 go_loopw [8] (fun i wr=>∃ k:Nat,k≤L.length∧i= .int .i64 k∧Below w.heap.size w wr∧∀ j (_:j<k) (h1:j<L.length),p L[j]=false) (fun i _=>L.length - (intOf i).toNat)
 case atStart=>exact ⟨0,Nat.zero_le _,rfl,Below.refl _ _,fun j h=>by omega⟩
 case round=>
  obtain ⟨k,hk,rfl,hb,hall⟩:=hrel;have HALL:=aA hall;have HB:=aA hb;clear hall
  by_cases hlt:k<L.length
  · obtain ⟨ad',cap',e,_,hcs⟩:=HS.out wr hb
    cases e
    obtain ⟨g,o,rfl,hg,hcz⟩:∃ g o,ad=some ⟨g,o,none⟩∧g<wr.heap.size∧∀ i (h:i<L.length),∃ vc ve,NdIn wr g (o+i*6) L[i] vc ve:=by
     rcases hcs with h|h
     · rw [h] at hlt;simp at hlt
     · exact h
    clear hcs;obtain ⟨vc,ve,⟨c0,c1,c2,c3,c4,c5⟩,⟨hpn,hed⟩,hgg⟩:=hcz k hlt;have HCC:=aA (HC.out wr hb _ (List.getElem_mem hlt) vc ve hpn hed);have HY:Hid (p L[k]=true→dR p L=k):=fun h=>mL hlt h HALL.out
    have HN:Hid (p L[k]=false→∀ j (_:j<k+1) (h1:j<L.length),p L[j]=false):=fun h j hj h1=>by
     rcases Nat.lt_or_ge j k with hjk|hjk
     · exact HALL.out j hjk h1
     · obtain rfl:j=k:=by omega
       exact h
    obtain ⟨av,cv,rfl⟩:=hpn.sl;obtain ⟨ae,ce,rfl⟩:=hed.sl;clear hcz hb hpn hed;generalize L[k].cx.length=l1 at*;generalize L[k].ed.length=l2 at*;cases hq:p L[k] with
    |true=>
     have HR:=aA (HY.out hq);rw [hq] at HCC;clear HY HN HALL hq
     go_wp2_with (go_at_call 111;refine HCC.out.mono ?_;rintro x w1 ⟨rfl,ok⟩)
     go_ret;exact ⟨Sc.bE HR.out.symm,aB HB.out ok⟩
    |false=>
     have HR:=aA (HN.out hq);rw [hq] at HCC;clear HY HN HALL hq
     go_wp2_with (go_at_call 111;refine HCC.out.mono ?_;rintro x w1 ⟨rfl,ok⟩)
     exact ⟨⟨k+1,by omega,by go_num,aB HB.out ok,HR.out⟩,by simp [intOf];omega⟩
  · have hke:k=L.length:=by omega
    subst hke;have HR:Hid (dR p L= -1):=mM fun j h1=>HALL.out j h1 h1
    clear hb
    go_wp2
    go_ret;exact ⟨Sc.bE HR.out.symm,HB.out⟩
set_option maxHeartbeats 800000 in
theorem KN {L:List Nd} {v:Value} {w:World} {u1:Value} {p:Nd→Bool} (h:NodesAt w v L) (hz:L.length≤9223372036854775807) (hc:∀ w1,Below w.heap.size w w1→∀ x ∈ L,∀ vc ve,PinsAt w1 vc x.cx→EdgesAt w1 ve x.ed→Calls Tryz.prog 111 #[.agg #[.string x.nm,.int .i64 x.a,.int .i64 x.b,.int .i64 x.c,vc,ve],u1] w1 fun e w'=>e= .returned (.bool (p x))∧Below w1.heap.size w1 w'):
 Calls Tryz.prog 110 #[v,.func (.func 111) #[] #[u1]] w fun e w'=>e= .returned (.bool (L.any p))∧Below w.heap.size w w':=by
 have HC:=aA (KK h hz hc);obtain ⟨ad,cap,rfl⟩:=h.sl;clear h hc
 rcases kJ p L with ⟨h1,h2⟩|⟨h1,h2⟩
 · have hd:decide (dR p L≥0)=true:=decide_eq_true h1
   rw [h2];generalize dR p L=r at*;clear h2
   go_enter Tryz.func110,Tryz.ntmps110
   go_wp2_with (go_at_call 68;refine HC.out.mono ?_;rintro x w1 ⟨rfl,ok⟩)
   go_ret;exact ⟨rfl,ok⟩
 · rw [h1] at HC
   rw [h2];clear h1 h2
   go_enter Tryz.func110,Tryz.ntmps110
   go_wp2_with (go_at_call 68;refine HC.out.mono ?_;rintro x w1 ⟨rfl,ok⟩)
   go_ret;exact ⟨rfl,ok⟩
theorem gX {x m:Nd} {vc ve uc ue:Value} {N:Nat} {w:World} (hc:PinsAt w vc x.cx) (he:EdgesAt w ve x.ed) (hb:BxNd w N m uc ue) (hd:PinsAt w uc m.cx) (hf:∃ ad k cap,ue= .slice ad k cap) (hz:x.cx.length≤9223372036854775807):
 Calls Tryz.prog 111 #[.agg #[.string x.nm,.int .i64 x.a,.int .i64 x.b,.int .i64 x.c,vc,ve],.pointer (some ⟨N,0,none⟩)] w fun e w'=>e= .returned (.bool (fE x m))∧Below w.heap.size w w':=by
 have HE:Hid (∀ w1,Below w.heap.size w w1→Calls Tryz.prog 70 #[.agg #[.string x.nm,.int .i64 x.a,.int .i64 x.b,.int .i64 x.c,vc,ve],.agg #[.string m.nm,.int .i64 m.a,.int .i64 m.b,.int .i64 m.c,uc,ue]] w1 fun e w'=>e= .returned (.bool (fE x m))∧Below w1.heap.size w1 w'):=fun w1 h=>qK (hc.below h) (let ⟨ad,cap,h⟩:=he.sl;⟨ad,_,cap,h⟩) (hd.below h) hf hz
 obtain ⟨av,cv,rfl⟩:=hc.sl;obtain ⟨ae,ce,rfl⟩:=he.sl;obtain ⟨bv,dv,rfl⟩:=hd.sl;obtain ⟨be,ke,de,rfl⟩:=hf;have HB:=aA (aZ _ _ _ _ _ _ hb (aD w (.cells #[.string x.nm,.int .i64 x.a,.int .i64 x.b,.int .i64 x.c,.slice av x.cx.length cv,.slice ae x.ed.length ce] 67)));obtain ⟨⟨k0,k1,k2,k3,k4,k5⟩,k6⟩:=HB.out;clear hc he hd hb hz HB;generalize x.cx.length=l1 at*;generalize x.ed.length=l2 at*;generalize m.cx.length=l3 at*
 go_enter Tryz.func111,Tryz.ntmps111
 go_wp2_with (go_at_call 70;refine (HE.out _ (aD _ _)).mono ?_;rintro e w1 ⟨rfl,ok⟩)
 go_ret;exact ⟨rfl,aB (aD _ _) ok⟩
noncomputable def eG:List Nd→List Nd→Bool
 |_,[]=>false
 |A,n::r=>A.any (fun x=>fE x n)||eG (A++[n]) r
theorem FW {G:List Nd} {k:Nat} (hk:k<G.length):eG (G.take k) (G.drop k)=((G.take k).any (fun x=>fE x G[k])||eG (G.take (k+1)) (G.drop (k+1))):=by
 rw [List.drop_eq_getElem_cons hk,List.take_succ_eq_append_getElem hk];rfl
theorem NodesAt.part {w:World} {g o n cap:Nat} {G:List Nd} (hs:∀ i (h:i<G.length),∃ vc ve,NdIn w g (o+i*6) G[i] vc ve) (hg:g<w.heap.size) (hc:G.length≤cap) (hn:n≤G.length):NodesAt w (.slice (some ⟨g,o,none⟩) n cap) (G.take n):=
 ⟨_,cap,by rw [List.length_take,Nat.min_eq_left hn],by rw [List.length_take];omega,Or.inr ⟨g,o,rfl,hg,fun i hi=>by
   rw [List.getElem_take];exact hs i (by rw [List.length_take] at hi;omega)⟩⟩
set_option maxHeartbeats 3200000 in
theorem lL {G:List Nd} {v:Value} {w:World} (hG:NodesAt w v G) (hz:G.length≤9223372036854775807) (hzl:∀ n ∈ G,SzN n):
 Calls Tryz.prog 61 #[v] w fun e w'=>e= .returned (.bool (eG [] G))∧Below w.heap.size w w':=by
 have HS:Hid (∀ w1,Below w.heap.size w w1→NodesAt w1 v G):=fun w1 hb=>hG.below hb
 have HZ:=aA hzl;obtain ⟨ad,cap,rfl,hcap,_⟩:=hG;clear hzl
 go_enter Tryz.func61,Tryz.ntmps61
 go_wp2_with fail
 go_loopw [7] (fun i wr=>∃ k:Nat,k≤G.length∧i= .int .i64 k∧Below w.heap.size w wr∧eG [] G=eG (G.take k) (G.drop k)) (fun i _=>G.length - (intOf i).toNat)
 case atStart=>exact ⟨0,Nat.zero_le _,rfl,Below.refl _ _,rfl⟩
 case round=>
  obtain ⟨k,hk,rfl,hb,hst⟩:=hrel;have HB:=aA hb
  by_cases hlt:k<G.length
  · obtain ⟨ad',cap',e,_,hcs⟩:=HS.out wr hb
    cases e
    obtain ⟨g,o,rfl,hg,hcz⟩:∃ g o,ad=some ⟨g,o,none⟩∧g<wr.heap.size∧∀ i (h:i<G.length),∃ vc ve,NdIn wr g (o+i*6) G[i] vc ve:=by
     rcases hcs with h|h
     · rw [h] at hlt;simp at hlt
     · exact h
    clear hcs;have HPT:Hid (∀ w1,Below wr.heap.size wr w1→NodesAt w1 (.slice (some ⟨g,o,none⟩) k cap) (G.take k)):=fun w1 h1=>(NodesAt.part hcz hg hcap hk).below h1
    obtain ⟨vc,ve,hx⟩:=hcz k hlt
    have HST:Hid (eG [] G=((G.take k).any (fun x=>fE x G[k])||eG (G.take (k+1)) (G.drop (k+1)))):=by
     unfold Hid;rw [hst,FW hlt]
    have HZK:Hid (∀ x ∈ G.take k,x.cx.length≤9223372036854775807):=fun x hx=>(HZ.out x (List.mem_of_mem_take hx)).1
    have HLT:Hid ((G.take k).length=k):=by unfold Hid;rw [List.length_take];omega
    clear hcz hst hb
    have HCC:Hid (∀ w1,Below wr.heap.size wr w1→BxNd w1 wr.heap.size G[k] vc ve→Calls Tryz.prog 110 #[.slice (some ⟨g,o,none⟩) k cap,.func (.func 111) #[] #[.pointer (some ⟨wr.heap.size,0,none⟩)]] w1 fun e w'=>e= .returned (.bool ((G.take k).any fun x=>fE x G[k]))∧Below w1.heap.size w1 w'):=fun w1 h1 hbx=>
     KN (HPT.out w1 h1) (by rw [HLT.out];omega) fun w2 h2 x hxm vd vf h3 h4=>gX h3 h4 (aZ _ _ _ _ _ _ hbx h2) ((hx.2.1.1.below h1).below h2) (let ⟨ad,cap,h⟩:=hx.2.1.2.sl;⟨ad,_,cap,h⟩) (HZK.out x hxm)
    generalize (G.take k).any (fun x=>fE x G[k])=b at*;obtain ⟨av,cv,rfl⟩:=hx.2.1.1.sl;obtain ⟨ae,ce,rfl⟩:=hx.2.1.2.sl;have HBX:Hid (Below wr.heap.size wr (wr.alloc (.cells #[.string G[k].nm,.int .i64 G[k].a,.int .i64 G[k].b,.int .i64 G[k].c,.slice av G[k].cx.length cv,.slice ae G[k].ed.length ce] 67))∧BxNd (wr.alloc (.cells #[.string G[k].nm,.int .i64 G[k].a,.int .i64 G[k].b,.int .i64 G[k].c,.slice av G[k].cx.length cv,.slice ae G[k].ed.length ce] 67)) wr.heap.size G[k] (.slice av G[k].cx.length cv) (.slice ae G[k].ed.length ce)):=⟨aD _ _,BxNd.new rfl _ _ _⟩;obtain ⟨⟨x0,x1,x2,x3,x4,x5⟩,_,x6⟩:=hx;clear HPT HZK HLT;generalize G[k]=x at*;generalize x.cx.length=l1 at*;generalize x.ed.length=l2 at*;have hkc:(k:Int)≤cap:=by omega
    cases b
    · have HR:Hid (eG [] G=eG (G.take (k+1)) (G.drop (k+1))):=HST.out
      clear HST
      go_wp2_with (go_at_call 110;refine (HCC.out _ HBX.out.1 HBX.out.2).mono ?_;rintro e w1 ⟨rfl,ok⟩)
      exact ⟨⟨k+1,by omega,by go_num,aB HB.out (aB (aD _ _) ok),HR.out⟩,by simp [intOf];omega⟩
    · have HR:Hid (eG [] G=true):=HST.out
      clear HST
      go_wp2_with (go_at_call 110;refine (HCC.out _ HBX.out.1 HBX.out.2).mono ?_;rintro e w1 ⟨rfl,ok⟩)
      go_ret;exact ⟨aC HR.out.symm,aB HB.out (aB (aD _ _) ok)⟩
  · have hke:k=G.length:=by omega
    subst hke;have HR:Hid (eG [] G=false):=by unfold Hid;rw [hst,List.drop_length];rfl
    clear hb hst
    go_wp2
    go_ret;exact ⟨aC HR.out.symm,HB.out⟩
def KP (G:List Nd) (t:Int):ByteArray:=match G[t.toNat]? with
 |some n=>n.nm
 |none=>⟨#[]⟩
theorem zQ {G:List Nd} {t:Nat} (h:t<G.length):KP G (t:Int)=G[t].nm:=by
 unfold KP;rw [Int.toNat_natCast,List.getElem?_eq_getElem h]
def iN (G:List Nd) (e:Eg):Bool:=decide ((KP G e.to).toList=e.lb.toList)
def iO (G:List Nd):Bool:=G.all fun n=>n.ed.all (iN G)
def InG (G:List Nd):Prop:=∀ n ∈ G,∀ e ∈ n.ed,0≤e.to∧e.to<(G.length:Int)
theorem uX {α:Type} {p:α→Bool} {L:List α} {k:Nat} (hk:k<L.length):(L.drop k).all p=(p L[k]&&(L.drop (k+1)).all p):=by
 rw [List.drop_eq_getElem_cons hk];rfl
set_option maxHeartbeats 6400000 in
theorem gH {G:List Nd} {v:Value} {w:World} (hG:NodesAt w v G) (hz:G.length≤9223372036854775807) (hzl:∀ n ∈ G,SzN n) (hin:InG G):
 Calls Tryz.prog 60 #[.agg #[v]] w fun e w'=>e= .returned (.bool (iO G))∧Below w.heap.size w w':=by
 have HS:Hid (∀ w1,Below w.heap.size w w1→NodesAt w1 v G):=fun w1 hb=>hG.below hb
 have HZ:=aA hzl;have HIN:=aA hin;obtain ⟨ad,cap,rfl,hcap,_⟩:=hG;have HB0:Hid (Below w.heap.size w (w.alloc (.cells #[.slice ad G.length cap] 55))∧BxG (w.alloc (.cells #[.slice ad G.length cap] 55)) w.heap.size (.slice ad G.length cap)):=⟨aD _ _,BxG.new rfl _⟩;clear hzl hin
 go_enter Tryz.func60,Tryz.ntmps60
 go_wp2_with fail
 go_loopw [10] (fun i wr=>∃ k:Nat,k≤G.length∧i= .int .i64 k∧(Below w.heap.size w wr∧BxG wr w.heap.size (.slice ad G.length cap))∧iO G=(G.drop k).all fun n=>n.ed.all (iN G)) (fun i _=>G.length - (intOf i).toNat)
 case atStart=>exact ⟨0,Nat.zero_le _,rfl,HB0.out,rfl⟩
 case round=>
  clear HB0;obtain ⟨k,hk,rfl,hb,hst⟩:=hrel;have HB:=aA hb
  by_cases hlt:k<G.length
  · obtain ⟨ad',cap',e,_,hcs⟩:=HS.out wr hb.1
    cases e
    obtain ⟨g,o,rfl,hg,hcz⟩:∃ g o,ad=some ⟨g,o,none⟩∧g<wr.heap.size∧∀ i (h:i<G.length),∃ vc ve,NdIn wr g (o+i*6) G[i] vc ve:=by
     rcases hcs with h|h
     · rw [h] at hlt;simp at hlt
     · exact h
    clear hcs;have HCZ:Hid (∀ w1,Below wr.heap.size wr w1→∀ i (h:i<G.length),∃ vc ve,NdIn w1 g (o+i*6) G[i] vc ve):=fun w1 h1 i hi=>let ⟨a,b,h⟩:=hcz i hi;⟨a,b,h.below h1⟩
    obtain ⟨vc,ve,hx⟩:=hcz k hlt
    have HST:Hid (iO G=(G[k].ed.all (iN G)&&(G.drop (k+1)).all fun n=>n.ed.all (iN G))):=by
     unfold Hid;rw [hst,uX hlt]
    have hle:=(HZ.out _ (List.getElem_mem hlt)).2;have HEI:=aA (HIN.out _ (List.getElem_mem hlt));clear hcz hst;obtain ⟨av,cv,rfl⟩:=hx.2.1.1.sl;obtain ⟨ae,ce,rfl⟩:=hx.2.1.2.sl;have HED:Hid (∀ w1,Below wr.heap.size wr w1→EdgesAt w1 (.slice ae G[k].ed.length ce) G[k].ed):=fun w1 h1=>hx.2.1.2.below h1
    obtain ⟨⟨x0,x1,x2,x3,x4,x5⟩,_,x6⟩:=hx;have HBB:Hid (Below wr.heap.size wr (wr.alloc (.cells #[.string G[k].nm,.int .i64 G[k].a,.int .i64 G[k].b,.int .i64 G[k].c,.slice av G[k].cx.length cv,.slice ae G[k].ed.length ce] 67))∧BxG (wr.alloc (.cells #[.string G[k].nm,.int .i64 G[k].a,.int .i64 G[k].b,.int .i64 G[k].c,.slice av G[k].cx.length cv,.slice ae G[k].ed.length ce] 67)) w.heap.size (.slice (some ⟨g,o,none⟩) G.length cap)):=⟨aD _ _,bY _ _ _ _ hb.2 (aD _ _)⟩;obtain ⟨_,y0,y1⟩:=hb;generalize G[k]=x at*;generalize hlx:x.ed.length=le at*;have HLX:=aA hlx;clear hlx;generalize x.cx.length=l1 at*;obtain ⟨wa,rfl⟩:∃ q,q=wr:=⟨wr,rfl⟩
    go_wp2_with fail
    clear x0 x1 x2 x3 x4 x5 x6 y0 y1
    go_loopw [17] (fun j wq=>∃ m:Nat,m≤le∧j= .int .i64 m∧(Below wa.heap.size wa wq∧BxG wq w.heap.size (.slice (some ⟨g,o,none⟩) G.length cap))∧x.ed.all (iN G)=(x.ed.drop m).all (iN G)) (fun j _=>le - (intOf j).toNat)
    case atStart=>exact ⟨0,Nat.zero_le _,rfl,HBB.out,rfl⟩
    case round=>
     clear HBB;obtain ⟨m,hm,rfl,hb2,hst2⟩:=hrel;have HB2:=aA hb2
     by_cases hml:m<le
     · have hmx:m<x.ed.length:=by have:=HLX.out;omega
       obtain ⟨gp,op,rfl,hcp,hei⟩:∃ gp op,ae=some ⟨gp,op,none⟩∧le≤ce∧EgIn wr gp (op+m*2) x.ed[m]:=by
        obtain ⟨a1,c1,hv,hc,hl⟩:=HED.out wr hb2.1;cases hv
        rcases hl with h|⟨g,o,rfl,_,hs⟩
        · rw [h] at hmx;cases hmx
        · exact ⟨g,o,rfl,by have:=HLX.out;omega,hs m hmx⟩
       obtain ⟨ht0,ht1⟩:=HEI.out _ (List.getElem_mem hmx);obtain ⟨t,ht⟩:=Int.eq_ofNat_of_zero_le ht0;have htl:t<G.length:=by omega
       obtain ⟨ud,uf,hnd⟩:=HCZ.out wr hb2.1 t htl
       have HST2:Hid (x.ed.all (iN G)=(iN G x.ed[m]&&(x.ed.drop (m+1)).all (iN G))):=by
        unfold Hid;rw [hst2,uX hmx]
       have HLE:Hid (iN G x.ed[m]=decide (G[t].nm.toList=x.ed[m].lb.toList)):=by
        unfold Hid iN;rw [ht,zQ htl]
       generalize x.ed[m]=e at*;generalize iN G e=le1 at*;obtain ⟨elb,eto⟩:=e
       simp only at ht HLE
       subst ht;clear hst2 ht0 ht1;have HK:Hid (KeepP fun w1=>(Below wa.heap.size wa w1∧BxG w1 w.heap.size (.slice (some ⟨g,o,none⟩) G.length cap))∧BxEg w1 wr.heap.size ⟨elb,(t:Int)⟩∧NdIn w1 g (o+t*6) G[t] ud uf):=((aG _).and (bY _ _)).and ((FP _ _).and (fun _ _ h hb=>h.below hb))
       have HO:Hid ((Below wa.heap.size wa (wr.alloc (.cells #[.string elb,.int .i64 (t:Int)] 77))∧BxG (wr.alloc (.cells #[.string elb,.int .i64 (t:Int)] 77)) w.heap.size (.slice (some ⟨g,o,none⟩) G.length cap))∧BxEg (wr.alloc (.cells #[.string elb,.int .i64 (t:Int)] 77)) wr.heap.size ⟨elb,(t:Int)⟩∧NdIn (wr.alloc (.cells #[.string elb,.int .i64 (t:Int)] 77)) g (o+t*6) G[t] ud uf):=
        ⟨⟨aB hb2.1 (aD _ _),bY _ _ _ _ hb2.2 (aD _ _)⟩,BxEg.new rfl ⟨elb,(t:Int)⟩,hnd.below (aD _ _)⟩
       obtain ⟨⟨e0,e1⟩,e6⟩:=hei
       simp only at e0 e1
       have hti:(t:Int)<G.length:=by omega
       have ht0:(0:Int)≤t:=by omega
       clear hnd hb2;generalize G[t]=y at*
       by_cases hnm:y.nm.toList=elb.toList
       · have HR:Hid (x.ed.all (iN G)=(x.ed.drop (m+1)).all (iN G)):=by unfold Hid;rw [HST2.out,HLE.out,decide_eq_true hnm];rfl
         clear HST2 HLE
         go_wp2_with fail
         clear e0 e1 e6;refine bA HK (by kernel_rfl) (by kernel_rfl) (by first|exact HO.out|exact HK.out.drew HO.out) ?_;intro C HIN HOUT;clear HO
         repeat
          (with_reducible refine wpQuiet_step (fun K hK=> ?_)
           go_simp
           first
            |(refine hK _ ?_;clear hK K)
            |(apply Exists.intro;refine ⟨fun w1 hC=> ?_,hK _ ?_⟩;(focus ((first|(exact rfl)|(obtain ⟨⟨hb1,y0,y1⟩,⟨⟨z0,z1⟩,z2⟩,⟨⟨x0,x1,x2,x3,x4,x5⟩,_,x6⟩⟩:=HOUT.out w1 hC;clear hC;go_simp;first|done|exact rfl));done));clear hK K))
         refine wpQuiet_nil ?_;intro wn hC;have HO:=aA (HOUT.out _ hC);clear hC HIN HOUT C;obtain ⟨⟨hb1,y0,y1⟩,⟨⟨z0,z1⟩,z2⟩,⟨⟨x0,x1,x2,x3,x4,x5⟩,_,x6⟩⟩:=HO.out
         go_wp2
         exact ⟨⟨m+1,by omega,by go_num,HO.out.1,HR.out⟩,by simp [intOf];omega⟩
       · have HR:Hid (iO G=false):=by unfold Hid;rw [HST.out,HST2.out,HLE.out,decide_eq_false hnm];rfl
         have hnm2:(y.nm.toList==elb.toList)=false:=by simp [hnm]
         clear HST2 HLE
         go_wp2_with fail
         clear e0 e1 e6;refine bA HK (by kernel_rfl) (by kernel_rfl) (by first|exact HO.out|exact HK.out.drew HO.out) ?_;intro C HIN HOUT;clear HO
         repeat
          (with_reducible refine wpQuiet_step (fun K hK=> ?_)
           go_simp
           first
            |(refine hK _ ?_;clear hK K)
            |(apply Exists.intro;refine ⟨fun w1 hC=> ?_,hK _ ?_⟩;(focus ((first|(exact rfl)|(obtain ⟨⟨hb1,y0,y1⟩,⟨⟨z0,z1⟩,z2⟩,⟨⟨x0,x1,x2,x3,x4,x5⟩,_,x6⟩⟩:=HOUT.out w1 hC;clear hC;go_simp;first|done|exact rfl));done));clear hK K))
         refine wpQuiet_nil ?_;intro wn hC;have HO:=aA (HOUT.out _ hC);clear hC HIN HOUT C;obtain ⟨⟨hb1,y0,y1⟩,⟨⟨z0,z1⟩,z2⟩,⟨⟨x0,x1,x2,x3,x4,x5⟩,_,x6⟩⟩:=HO.out
         go_wp2
         go_ret;exact ⟨aC HR.out.symm,aB HB.out.1 hb1⟩
     · have hme:m=le:=by omega
       subst hme
       have HR:Hid (iO G=(G.drop (k+1)).all fun n=>n.ed.all (iN G)):=by
        have e:x.ed.drop m=[]:=by rw [←HLX.out,List.drop_length]
        unfold Hid;rw [HST.out,hst2,e];rfl
       clear hst2 hb2
       go_wp2
       exact ⟨⟨k+1,by omega,by go_num,⟨aB HB.out.1 HB2.out.1,HB2.out.2⟩,HR.out⟩,by simp [intOf];omega⟩
  · have hke:k=G.length:=by omega
    subst hke;have HR:Hid (iO G=true):=by unfold Hid;rw [hst,List.drop_length];rfl
    clear hst;obtain ⟨_,y0,y1⟩:=hb
    go_wp2
    go_ret;exact ⟨aC HR.out.symm,HB.out.1⟩
theorem gI (f:Nat→Nat):∀ (n:Nat) (S:List Nat),S.Nodup→(∀ x ∈ S,x<n)→(S.map f).sum≤((List.range n).map f).sum
 |0,S,_,h=>by
  cases S with
  |nil=>simp
  |cons a r=>exact absurd (h a (by simp)) (by omega)
 |n+1,S,hd,h=>by
  rw [List.range_succ,List.map_append,List.sum_append]
  by_cases hn:n ∈ S
  · have hp:=List.perm_cons_erase hn
    have e:(S.map f).sum=f n+((S.erase n).map f).sum:=by
     rw [(hp.map f).sum_nat]
     simp
    have ih:=gI f n (S.erase n) (hd.erase n) (fun x hx=>by
     have q:=(hd.mem_erase_iff).1 hx
     have:=h x q.2
     omega)
    simp only [List.map_cons,List.map_nil,List.sum_cons,List.sum_nil];omega
  · have ih:=gI f n S hd (fun x hx=>by
     have:=h x hx
     have:x≠n:=fun e=>hn (e ▸ hx)
     omega)
    simp only [List.map_cons,List.map_nil,List.sum_cons,List.sum_nil];omega
theorem oA:∀ (L:List Nat),(L.map fun _=>1).sum=L.length
 |[]=>rfl
 |a::r=>by rw [List.map_cons,List.sum_cons,oA r,List.length_cons];omega
theorem xI {n:Nat} {S:List Nat} (hd:S.Nodup) (h:∀ x ∈ S,x<n):S.length≤n:=by
 have q:=gI (fun _=>1) n S hd h;rw [oA,oA,List.length_range] at q;exact q
def sF (n:Nat) (S:List Nat) (t:Int):List Nat:=if 0≤t∧t<(n:Int)∧t.toNat ∉ S then S++[t.toNat] else S
def sG (n:Nat) (S:List Nat) (es:List Eg):List Nat:=es.foldl (fun S e=>sF n S e.to) S
def edA (G:List Nd) (i:Nat):List Eg:=match G[i]? with
 |some n=>n.ed
 |none=>[]
theorem FX {G:List Nd} {i:Nat} (h:i<G.length):edA G i=G[i].ed:=by
 unfold edA;rw [List.getElem?_eq_getElem h]
def FY (G:List Nd):Nat→Nat→List Nat→List Nat
 |0,_,S=>S
 |f+1,i,S=>match S[i]? with
  |none=>S
  |some q=>FY G f (i+1) (sG G.length S (edA G q))
def NB (G:List Nd):List Nat:=FY G G.length 0 [0]
def gL (G:List Nd):List Nat:=if G.length=0 then [] else (List.range G.length).filter fun i=>decide (i ∈ NB G)
structure RI (n:Nat) (S:List Nat):Prop where
 nd:S.Nodup
 lt:∀ x ∈ S,x<n
theorem RI.len {n:Nat} {S:List Nat} (h:RI n S):S.length≤n:=xI h.nd h.lt
theorem RI.one {n:Nat} (h:0<n):RI n [0]:=⟨by simp,fun x hx=>by rw [List.mem_singleton.1 hx];exact h⟩
theorem FZ {n:Nat} {S:List Nat} {t:Int} (h:¬ (0≤t∧t<(n:Int))):sF n S t=S:=by
 unfold sF;rw [if_neg fun q=>h ⟨q.1,q.2.1⟩]
theorem GA {n:Nat} {S:List Nat} {t:Nat} (h:t ∈ S):sF n S (t:Int)=S:=by
 unfold sF;rw [if_neg fun q=>q.2.2 (by rw [Int.toNat_natCast];exact h)]
theorem GB {n:Nat} {S:List Nat} {t:Nat} (ht:t<n) (h:t ∉ S):sF n S (t:Int)=S++[t]:=by
 unfold sF;rw [if_pos ⟨by omega,by omega,by rw [Int.toNat_natCast];exact h⟩,Int.toNat_natCast]
theorem RI.snoc {n:Nat} {S:List Nat} {t:Nat} (h:RI n S) (ht:t<n) (hn:t ∉ S):RI n (S++[t]):=
 ⟨List.nodup_append.2 ⟨h.nd,by simp,fun a ha b hb e=>hn (by rw [List.mem_singleton.1 hb] at e;exact e ▸ ha)⟩,fun x hx=>by
   rcases List.mem_append.1 hx with q|q
   · exact h.lt x q
   · rw [List.mem_singleton.1 q];exact ht⟩
theorem CM {n:Nat} {S:List Nat} {es:List Eg} {j:Nat} (hj:j<es.length):sG n S (es.drop j)=sG n (sF n S es[j].to) (es.drop (j+1)):=by
 rw [List.drop_eq_getElem_cons hj];rfl
structure RJ (G:List Nd) (i:Nat) (S:List Nat):Prop where
 ri:RI G.length S
 le:i≤S.length
 go:FY G (G.length - i) i S=NB G
theorem RJ.one {G:List Nd} (h:0<G.length):RJ G 0 [0]:=⟨RI.one h,Nat.zero_le _,rfl⟩
theorem RJ.done {G:List Nd} {S:List Nat} (h:RJ G S.length S):S=NB G:=by
 rw [←h.go];cases hn:G.length - S.length with
 |zero=>rfl
 |succ f=>
  unfold FY;rw [List.getElem?_eq_none (Nat.le_refl _)]
theorem RJ.next {G:List Nd} {i:Nat} {S S':List Nat} (h:RJ G i S) (hi:i<S.length) (hS:sG G.length S (edA G S[i])=S') (hr:RI G.length S') (hl:i+1≤S'.length):RJ G (i+1) S':=by
 refine ⟨hr,hl,?_⟩;have hn:=h.ri.len;rw [←h.go,show G.length - i=(G.length - (i+1))+1 by omega]
 conv=>rhs;unfold FY
 rw [List.getElem?_eq_getElem hi]
 simp only
 rw [hS]
def KQ (G:List Nd):Nat:=((List.range G.length).map fun i=>(edA G i).length).sum
def pG (G:List Nd) (S:List Nat):Nat:=(S.map fun i=>(edA G i).length).sum
theorem RI.deg {G:List Nd} {S:List Nat} (h:RI G.length S) (i:Nat):pG G (S.take i)≤KQ G:=
 gI _ _ _ (List.Nodup.sublist (List.take_sublist i S) h.nd) fun x hx=>h.lt x (List.mem_of_mem_take hx)
theorem CN {G:List Nd} {S:List Nat} {i:Nat} (hi:i<S.length):pG G (S.take (i+1))=pG G (S.take i)+(edA G S[i]).length:=by
 unfold pG;rw [List.take_succ_eq_append_getElem hi,List.map_append,List.sum_append]
 simp
theorem KR {l:List Nat} {R:Nat→Nat→Prop} {Q:Int→Int→Prop} (hq:∀ a b:Nat,R a b→Q (a:Int) (b:Int)) (h:l.Pairwise R):(l.map fun x:Nat=>(x:Int)).Pairwise Q:=List.pairwise_map.2 (h.imp fun {a b} r=>hq a b r)
theorem KS {n:Nat} {S:List Nat} (h:RI n S):(S.map fun x:Nat=>(x:Int)).mergeSort (fun x y=>decide (x≤y))=((List.range n).filter fun i=>decide (i ∈ S)).map fun x:Nat=>(x:Int):=by
 have h1:((S.map fun x:Nat=>(x:Int)).mergeSort (fun x y=>decide (x≤y))).Pairwise fun a b=>decide (a≤b)=true:=List.pairwise_mergeSort (fun a b c=>by simp only [decide_eq_true_eq];omega) (fun a b=>by simp only [Bool.or_eq_true,decide_eq_true_eq];omega) _
 have h2:(((List.range n).filter fun i=>decide (i ∈ S)).map fun x:Nat=>(x:Int)).Pairwise fun a b=>decide (a≤b)=true:=
  KR (R:=fun a b=>a<b) (fun a b hab=>by rw [decide_eq_true_eq];omega) (List.pairwise_lt_range.filter _)
 refine List.Perm.eq_of_pairwise (le:=fun a b=>decide (a≤b)=true) (fun a b _ _ q1 q2=>by rw [decide_eq_true_eq] at q1 q2;omega) h1 h2 ?_;refine (List.mergeSort_perm _ _).trans ?_;refine List.Perm.map _ ?_;refine (List.perm_ext_iff_of_nodup h.nd (List.Nodup.sublist List.filter_sublist List.nodup_range)).2 fun x=> ?_
 rw [List.mem_filter,List.mem_range,decide_eq_true_eq];exact ⟨fun q=>⟨h.lt x q,q⟩,fun q=>q.2⟩
end Go.Proofs.YtpfemjlhklnfoaaGreatDoor
namespace Go.Proofs.YtpfemjlhklnfoaaGreatDoor
open Go.RowKit Go.Maps Go.WideMaps Go.Sort
set_option maxRecDepth 100000
theorem xJ:Keyed Tryz.prog 3:=int_keyed Tryz.underlying3
theorem ON {t:Nat} (h:t<4611686018427387904):keyOf Tryz.prog 3 (.int .i64 (t:Int))=some (.int .i64 (t:Int)):=keyOf_int_mk Tryz.underlying3 (by
 have h1:IntKind.i64.min= -9223372036854775808:=rfl;have h2:IntKind.i64.max=9223372036854775807:=rfl;simp only [Lit.wf,h1,h2,Bool.and_eq_true,decide_eq_true_eq];omega)
def CntI (w:World) (M n:Nat) (S:List Nat) (tot:Nat):Prop:=∃ (D:DataW Value) (c:Nat→Nat),w.ownsMap Tryz.prog 3 eU M n D∧(∀ t:Nat,t<4611686018427387904→D.atKey (.int .i64 (t:Int)) (.held (.int .i64 0))= .held (.int .i64 (c t:Nat)))∧(∀ t,0<c t↔t ∈ S)∧∀ t,c t≤tot
theorem CntI.kept {w w':World} {M n:Nat} {S:List Nat} {tot:Nat} (h:CntI w M n S tot) {row:Option Nat} (hg:w.grownBy w' row) (hr:some M≠row):CntI w' M n S tot:=by
 obtain ⟨D,c,h1,h2⟩:=h;exact ⟨D,c,h1.kept hg hr,h2⟩
theorem CntI.step {w:World} {M n tot:Nat} {S S':List Nat} (h:CntI w M n S tot) {t:Nat} (ht:t<4611686018427387904) (hn:n<maxLen) (hS:∀ x,x ∈ S'↔x ∈ S∨x=t):
 ∃ k:Nat,(0<k↔t ∈ S)∧k≤tot∧∀ w2 row,w.grownBy w2 row→some M≠row→(Instr.lookup 118 (.map (some M)) (.int .i64 (t:Int)) false).run Tryz.prog w2= .ok (.int .i64 (k:Int)) w2∧
   ∃ w3,(Instr.mapUpdate 118 (.map (some M)) (.int .i64 (t:Int)) (.int .i64 ((k:Int)+1))).run Tryz.prog w2= .ok () w3∧CntI w3 M (n+1) S' (tot+1)∧w2.grownBy w3 (some M):=by
 obtain ⟨D,c,h1,h2,h3,h4⟩:=h;refine ⟨c t,h3 t,h4 t,fun w2 row hg hr=> ?_⟩;have o2:=h1.kept hg hr;have hk:=ON ht;obtain ⟨v,ps,hrun,hv⟩:=o2.lookup xJ Tryz.underlying118 (NX w2) (zd:= .held (.int .i64 0)) (zp:=[]) rfl hk;rw [h2 t ht] at hv;refine ⟨by rw [hrun,fP hv],?_⟩;obtain ⟨w3,hup,o3,hg3⟩:=o2.update xJ Tryz.underlying118 hn hk (val:= .int .i64 ((c t:Int)+1)) (d:= .held (.int .i64 ((c t:Int)+1))) (ps:=[]) rfl;refine ⟨w3,hup,⟨_,fun x=>if x=t then c t+1 else c x,o3,fun x hx=> ?_,fun x=> ?_,fun x=> ?_⟩,hg3⟩
 · dsimp only
   by_cases e:x=t
   · subst e
     rw [atKey_put_same h1.isMap (xJ.key hk),if_pos rfl];rfl
   · rw [atKey_put_other (fun q=>e (by
      injection q with _ q
      omega)),h2 x hx,if_neg e]
 · dsimp only
   rw [hS]
   by_cases e:x=t
   · rw [if_pos e]
     exact ⟨fun _=>Or.inr e,fun _=>by omega⟩
   · rw [if_neg e,h3 x]
     exact ⟨Or.inl,fun q=>q.elim id fun q=>absurd q e⟩
 · dsimp only
   by_cases e:x=t
   · rw [if_pos e]
     have:=h4 t
     omega
   · rw [if_neg e]
     have:=h4 x
     omega
theorem CntI.one {w:World} {M:Nat} (h:w.ownsMap Tryz.prog 3 eU M 0 (.map [])):∃ w2,(Instr.mapUpdate 118 (.map (some M)) (.int .i64 0) (.int .i64 1)).run Tryz.prog w= .ok () w2∧CntI w2 M 1 [0] 1∧w.grownBy w2 (some M):=by
 have h0:CntI w M 0 [] 0:=⟨_,fun _=>0,h,fun t _=>rfl,fun t=>by simp,fun t=>Nat.le_refl _⟩;obtain ⟨k,_,hk,hs⟩:=h0.step (t:=0) (S':=[0]) (by omega) (by unfold maxLen;omega) (fun x=>by simp);obtain rfl:k=0:=by omega
 obtain ⟨_,w3,hup,hc,hg⟩:=hs w none ⟨rfl,rfl,rfl,Nat.le_refl _,fun _ _ _=>rfl⟩ (by simp);exact ⟨w3,hup,hc,hg⟩
def pH (l:List Nat):List Value:=l.map fun r:Nat=>Value.int .i64 (r:Int)
theorem CO (l:List Nat) (r:Nat):pH (l++[r])=pH l++[.int .i64 (r:Int)]:=by simp [pH]
def OwnN (w:World) (B:Nat) (v:Value) (l:List Nat):Prop:=w.ownsRow B 3 1 v l.length (pH l)
def InN (w:World) (g o:Nat) (x:Int):Prop:=w.cell? ⟨g,o,none⟩=some (.int .i64 x)∧g<w.heap.size
theorem KT (g o:Nat) (x:Int):KeepP fun w1=>InN w1 g o x:=fun _ _ h hb=>⟨(hb.cell (p:=⟨g,o,none⟩) h.2).trans h.1,Nat.lt_of_lt_of_le h.2 hb.size⟩
theorem OwnN.below {w w':World} {B:Nat} {v:Value} {l:List Nat} (h:OwnN w B v l) (hb:Below w.heap.size w w'):OwnN w' B v l:=by
 refine ⟨h.1,h.2.imp id ?_⟩;rintro ⟨g,cap,cur,rfl,hB,hgg,r⟩;exact ⟨g,cap,cur,rfl,hB,(hb.block g (Array.getElem?_eq_some_iff.1 hgg).1).trans hgg,r⟩
theorem OwnN.at {w:World} {B q c:Nat} {l:List Nat} (h:OwnN w B (.slice (some ⟨q,0,none⟩) l.length c) l) {i:Nat} (hi:i<l.length):InN w q i (l[i]:Int):=by
 have e:=World.ownsRow.cellAt h i (by omega);have e2:(pH l)[i]? =some (.int .i64 (l[i]:Int)):=by simp [pH,hi]
 exact ⟨e.trans e2,(World.ownsRow.lt h q rfl).2⟩
theorem GC:(Tryz.prog.info? 3).map (fun i=>(i.zero,i.size,i.bytes))=some (some (.int .i64 0),1,8):=by kernel_rfl
theorem OC {w:World} {B n q cap:Nat} {S:List Nat} (h:OwnN w B (.slice (some ⟨q,0,none⟩) S.length cap) S) (hr:RI n S) (hn:n≤1000000000000000):
 Calls Tryz.prog 72 #[.slice (some ⟨q,0,none⟩) S.length cap] w fun e w'=>e= .returned (.tuple #[])∧(OwnN w' B (.slice (some ⟨q,0,none⟩) S.length cap) ((List.range n).filter fun i=>decide (i ∈ S))∧((List.range n).filter fun i=>decide (i ∈ S)).length=S.length)∧w.grownBy w' (some q):=by
 have hsz:=hr.len;have hm:=KS hr
 have hlen:((List.range n).filter fun i=>decide (i ∈ S)).length=S.length:=by
  have e:=congrArg List.length hm;rw [List.length_mergeSort,List.length_map,List.length_map] at e;exact e.symm
 rcases h.2 with ⟨e,_⟩|⟨g',cap',cur,hv,hg,hb,h1,h2,h3,h4⟩
 · cases e
 cases hv
 have h4':cur.toList.take (S.map fun x:Nat=>(x:Int)).length=(S.map fun x:Nat=>(x:Int)).map (Value.int .i64):=by
  rw [List.length_map,List.map_map];rw [Nat.mul_one] at h4;exact h4
 have hcon:=Tryz.slices_Sort_int q 0 cap (S.map fun x:Nat=>(x:Int)) w (holds_of_blockI hb h4') (Array.getElem?_eq_some_iff.1 hb).1 (by rw [List.length_map];omega);rw [List.length_map] at hcon;refine hcon.mono ?_;rintro e w' ⟨rfl,m,os,rfl⟩;rw [hm];refine ⟨rfl,⟨?_,hlen⟩,grownBy_sortedI _⟩;have q2:=ownsRow_sortedI (w:=w) (base:=B) (g:=q) (cap:=cap) (n:=m) (e:=3) (os:=os) (cur:=cur) (ss:=S.map fun x:Nat=>(x:Int)) (ts:=((List.range n).filter fun i=>decide (i ∈ S)).map fun x:Nat=>(x:Int)) (by simp [hlen]) hg hb (by simpa using h1) h2 h3;unfold OwnN pH;rw [hlen];rw [List.length_map,List.map_map] at q2;exact q2
end Go.Proofs.YtpfemjlhklnfoaaGreatDoor
namespace Go.Proofs.YtpfemjlhklnfoaaGreatDoor
open Go.RowKit
set_option maxRecDepth 100000
theorem sH {B:Nat} {wx:World} {elt slt:TypeId} {z:Value} {sz bs n m c:Nat} {v:Value} {xs news:List Value} {ad:Addr} {ops:Array Oper} {rest:List Oper} {o:Oper} {f:Act} {Q:Exit→Act→World→Prop}
 (hinfo:(Tryz.prog.info? elt).map (fun i=>(i.zero,i.size,i.bytes))=some (some z,sz,bs)) (hund:Tryz.prog.underlying slt=some (.slice elt)) (hzc:z.cells.size=sz) (hsz:0<sz)
 (hgd:o.guard=none) (s t:Operand) (ho:o.op= .call { callee:= .builtin .append,args:= #[s,t],argTypes:= #[slt,slt] }) (hs:f.eval s=v)
 (hown:wx.ownsRow B elt sz v n xs) (hB:B≤wx.heap.size) (hx:f.eval t= .slice (some ad) m c) (hl:news.length=m*sz) (hnews:∀ j u,news[j]? =some u→wx.cell? (ad.add j)=some u) (hone:∀ u ∈ news,u.oneCell'=true) (hbb:(n+m)*bs≤140737488355328) (hlen:n+m≤140737488355328)
 (h:∀ v1 w1,w1.ownsRow B elt sz v1 (n+m) (xs++news)→wx.grownBy w1 v.ownBlock→(v1.ownBlock=v.ownBlock∨v1.ownBlock=some wx.heap.size)→wpList Tryz.prog ops Q rest (f.put o.dst v1) w1):
 wpList Tryz.prog ops Q (o::rest) f wx:=by
 obtain ⟨i0,hi,hz0,hz1,hz2⟩:=Sc.cO hinfo;refine wpList_append_own_at _ hgd s t slt ho B elt i0 z sz bs hund hi hz0 hz1 hz2 hzc hsz v n xs hs hown ad m c news hx hl hnews hone (by unfold maxLen;omega) hbb hB ?_;intro v1 w1 hown1 hg1 _ hat;exact h v1 w1 hown1 hg1 hat
set_option maxHeartbeats 1600000 in
theorem xK {L:List Sp} {v:Value} {w:World} (h:SpansC w v L) (hl:L.length*48≤140737488355328):Calls Tryz.prog 138 #[v] w fun e w'=>∃ v',e= .returned v'∧OwnS w' w.heap.size v' L∧Below w.heap.size w w':=by
 obtain ⟨⟨ad,cap,rfl,hc⟩,_⟩:=h;cases ad with
 |none=>
  obtain rfl:L=[]:=by
   rcases hc with e|⟨_,_,q,_⟩
   · exact e
   · cases q
  rw [List.length_nil];have q0:∀ w,(binOp .eql 39 (.slice none 0 cap) (.slice none 0 0)).run Tryz.prog w= .ok (.bool true) w:=fun w=>run_eql_slice_nil w 39 91 none 0 cap Tryz.underlying39
  go_enter Tryz.func138,Tryz.ntmps138
  go_wp2
  go_ret;exact ⟨_,rfl,OwnS.nil _ _,Below.refl _ _⟩
 |some a=>
  have HNW:Hid (∀ j u,(bM L)[j]? =some u→(w.alloc (.cells #[] 91)).cell? (a.add j)=some u):=fun j u hj=>by
   rcases hc with e|⟨g,o,q,hg,hs⟩
   · subst e;simp [bM] at hj
   · cases q
     have e:=yV hs j u hj;have e2:(⟨g,o,none⟩:Addr).add j=⟨g,o+j,none⟩:=by simp [Addr.add]
     rw [e2];exact ((aD w (.cells #[] 91)).cell (p:=⟨g,o+j,none⟩) hg).trans e
  have HRW:=aA (pQ w);clear hc;have q0:∀ w,(binOp .eql 39 (.slice (some a) L.length cap) (.slice none 0 0)).run Tryz.prog w= .ok (.bool false) w:=fun w=>run_eql_slice_nil w 39 91 (some a) L.length cap Tryz.underlying39
  go_enter Tryz.func138,Tryz.ntmps138
  go_wp2_with (at_builtin;refine sH (B:=w.heap.size) (wx:=w.alloc (.cells #[] 91)) (news:=bM L) (xs:=[]) (n:=0) tD Tryz.underlying39 rfl (by decide) rfl (.tmp 5) (.tmp 6) rfl rfl HRW.out (by simp) rfl (eR L) HNW.out (EQ L) (by omega) (by omega) ?_;intro v1 w1 ho hgr hat;have HO:Hid (OwnS w1 w.heap.size v1 L):=(by have e:=ho;rw [Nat.zero_add,List.nil_append] at e;exact e);have HB:Hid (Below w.heap.size w w1):=(aD w (.cells #[] 91)).trans (dN (B:=w.heap.size) hgr (fun g e=>by cases e;exact Nat.le_refl _) (by simp));clear ho hgr hat)
  go_ret;exact ⟨_,rfl,HO.out,HB.out⟩
def lM (O ds:List Dp):Prop:=ds.length≤100000000∧∀ d ∈ ds,d.nm.size≤281474976710656∧(bV O d).length*48≤140737488355328
end Go.Proofs.YtpfemjlhklnfoaaGreatDoor
