/- Id1, Iy0, Id2, Iz1, Iz2, Iy1, Iy2: their declarations that are needed, laid in one text, remarks and blanks left out. -/
import Derived.Test.YtlmpiohbmlddiaaGreatDoorMd19
namespace Go.Proofs.YtlmpiohbmlddiaaGreatDoor
open Go.RowKit Go.Lib Go.Sort
set_option maxRecDepth 100000
def flF (x:Fi):Dk.Fl:=(x.pa,x.dr,x.da)
def rD:Sc.Bs:=[109,111,100,117,108,101,115]
theorem yA {t:Sc.Bs} (h:Sc.aG t=true):∀ c ∈ t,c≠47:=fun c hc e=>by
 subst e;unfold Sc.aG at h;simp only [Bool.and_eq_true,List.all_eq_true] at h;have q:=h.1.2 _ hc;revert q;decide
theorem PB {b:UInt8} (h:Sc.nmB b=true):Dk.dC b=true:=by
 unfold Sc.nmB Sc.ltB Sc.dgB at h;unfold Dk.dC;simp only [Bool.or_eq_true,Bool.and_eq_true,decide_eq_true_eq,beq_iff_eq] at*
 rcases h with (h|h)|h
 · exact Or.inl (Or.inl (Or.inl h))
 · exact Or.inl (Or.inl (Or.inr h))
 · exact Or.inr h
theorem PC {t:Sc.Bs} (h:Sc.aG t=true):Dk.bL t=true:=by
 unfold Sc.aG at h;simp only [Bool.and_eq_true,List.all_eq_true,decide_eq_true_eq] at h;obtain ⟨⟨h1,h2⟩,h3⟩:=h;have e0:t≠[]:=fun e=>by subst e;revert h1;decide
 have e1:t≠[46]:=fun e=>by subst e;revert h1;decide
 have e2:t≠[46,46]:=fun e=>by subst e;revert h1;decide
 have hl:t.length≠0:=fun e=>e0 (List.eq_nil_of_length_eq_zero e)
 unfold Dk.bL;simp only [Bool.and_eq_true,Bool.not_eq_true',beq_eq_false_iff_ne,decide_eq_true_eq,List.all_eq_true];exact ⟨⟨⟨⟨hl,by omega⟩,e1⟩,e2⟩,fun c hc=>PB (h2 c hc)⟩
theorem lY:∀ {l:Sc.Bs} {cur:Sc.Bs},(∀ c ∈ l,c≠47)→∀ r,Dk.dA cur (l++47::r)=(Dk.bL (cur++l)&&Dk.dA [] r)
 |[],cur,_,r=>by rw [List.nil_append,Dk.uA,List.append_nil]
 |c::l,cur,h,r=>by
  rw [List.cons_append,Dk.lB _ _ _ (h c (by simp)),lY (fun x hx=>h x (List.mem_cons_of_mem _ hx)),List.append_assoc];rfl
theorem lZ:∀ {l:Sc.Bs} {cur:Sc.Bs},(∀ c ∈ l,c≠47)→Dk.dA cur l=Dk.bL (cur++l)
 |[],cur,_=>by rw [Dk.BJ,List.append_nil]
 |c::l,cur,h=>by
  rw [Dk.lB _ _ _ (h c (by simp)),lZ (fun x hx=>h x (List.mem_cons_of_mem _ hx)),List.append_assoc];rfl
def TailOk (t:Sc.Bs):Prop:=t=[]∨∃ r,t=47::r∧Dk.dA [] r=true
theorem TailOk.one {l:Sc.Bs} (h:∀ c ∈ l,c≠47) (hp:Dk.bL l=true):TailOk (47::l):=Or.inr ⟨l,rfl,by rw [lZ h];exact hp⟩
theorem TailOk.more {l t:Sc.Bs} (h:∀ c ∈ l,c≠47) (hp:Dk.bL l=true) (ht:TailOk t):Dk.dA [] (l++t)=true:=by
 rcases ht with rfl|⟨r,rfl,hr⟩
 · rw [List.append_nil,lZ h]
   exact hp
 · rw [lY h,hr,Bool.and_true]
   exact hp
theorem uD:∀ c ∈ rD,c≠47:=by decide
theorem sL:Dk.bL rD=true:=by decide
theorem TailOk.text:∀ {p:List ByteArray} {t:Sc.Bs},aI p=true→TailOk t→TailOk (aJ p++t)
 |[],_,_,ht=>ht
 |s::p,t,hp,ht=>by
  unfold aI at hp;rw [List.all_cons,Bool.and_eq_true] at hp;have ih:=TailOk.text (p:=p) (t:=t) hp.2 ht;refine Or.inr ⟨rD++47::(s.data.toList++(aJ p++t)),?_,?_⟩
  · rw [bX]
    show 47::(rD++47::(s.data.toList++aJ p))++t=_
    simp
  · rw [lY uD,List.nil_append,sL,Bool.true_and]
    exact TailOk.more (yA hp.1) (PC hp.1) ih
theorem TailOk.path {s:ByteArray} (h:TailOk s.data.toList) (h0:s.data.toList≠[]) (hz:s.size≤4096):Dk.bT s=true:=by
 rcases h with h|⟨r,e,hr⟩
 · exact absurd h h0
 · have hr0:r≠[]:=fun q=>by subst q;revert hr;decide
   have hl:s.size=r.length+1:=by rw [←aK,e,List.length_cons]
   have:=List.length_pos_iff.2 hr0
   rw [Dk.xT,e];simp only [Bool.and_eq_true,decide_eq_true_eq,List.head?_cons,beq_self_eq_true,List.drop_succ_cons,List.drop_zero];exact ⟨⟨⟨by omega,hz⟩,trivial⟩,hr⟩
def ctl:Ca→Sc.Bs
 | .man=>gD.data.toList
 | .lok=>eD.data.toList
 | .pru=>mW.data.toList
 | .mod _=>fO.data.toList
 | .dir _=>[]
 | .pkg _=>cY.data.toList
theorem lD (mt lt:ByteArray) (a:Ca):(caF mt lt a).pa.data.toList=aJ (KS a)++ctl a:=by
 cases a with
 |man=>rfl
 |lok=>rfl
 |pru=>rfl
 |mod p=>show (aL p++fO).data.toList=_;rw [bQ,dO];rfl
 |dir p=>show (aL p).data.toList=_;rw [dO];exact (List.append_nil _).symm
 |pkg d=>show (aL d.pa++cY).data.toList=_;rw [bQ,dO];rfl
theorem RZ (a:Ca):TailOk (ctl a)∧(ctl a).length≤9:=by
 cases a with
 |dir p=>exact ⟨Or.inl rfl,Nat.le_of_ble_eq_true rfl⟩
 |man=>exact ⟨TailOk.one (l:=[109,97,110,105,102,101,115,116]) (by decide) (by decide),by decide⟩
 |lok=>exact ⟨TailOk.one (l:=[108,111,99,107]) (by decide) (by decide),by decide⟩
 |pru=>exact ⟨TailOk.one (l:=[112,114,117,110,101,100]) (by decide) (by decide),by decide⟩
 |mod p=>exact ⟨TailOk.one (l:=rD) uD sL,Nat.le_of_ble_eq_true rfl⟩
 |pkg d=>exact ⟨TailOk.one (l:=[112,97,99,107,97,103,101]) (by decide) (by decide),Nat.le_of_ble_eq_true rfl⟩
theorem MO {L:List Dr} (h:TrOk L) {pr:Bool} {a:Ca} (ha:a ∈ caP pr L):aI (KS a)=true∧(aJ (KS a)).length≤1024∧(ctl a=[]→KS a≠[]):=by
 unfold caP at ha
 rcases List.mem_append.1 ha with ha|ha
 · rcases kU ha with rfl|rfl|rfl<;>exact ⟨rfl,by decide,fun e=>by revert e;decide⟩
 · obtain ⟨d,hd,ha⟩:=List.mem_flatMap.1 ha
   obtain ⟨i,hi,hne,rfl⟩:=cD.1 hd;obtain ⟨h0,hn,hz,_⟩:=h.names i hi hne;simp only [List.mem_cons,List.not_mem_nil,or_false] at ha
   rcases ha with rfl|rfl|rfl
   · exact ⟨wO hn,Nat.le_trans (fC _ _) hz,fun e=>absurd (show fO.data.toList=[] from e) (by decide)⟩
   · exact ⟨hn,hz,fun _=>h0⟩
   · exact ⟨hn,hz,fun _=>h0⟩
theorem sM {p:List ByteArray} (hp:aI p=true) (h:aJ p=[]):p=[]:=by
 have:=dR hp
 rw [h,List.length_nil] at this;exact List.eq_nil_of_length_eq_zero (by omega)
theorem nN {L:List Dr} (h:TrOk L) {pr:Bool} (mt lt:ByteArray) {a:Ca} (ha:a ∈ caP pr L):Dk.bT (caF mt lt a).pa=true:=by
 obtain ⟨h1,h2,h3⟩:=MO h ha;obtain ⟨h4,h5⟩:=RZ a;refine TailOk.path ?_ ?_ ?_
 · rw [lD]
   exact TailOk.text h1 h4
 · rw [lD]
   intro e;rw [List.append_eq_nil_iff] at e;exact h3 e.2 (sM h1 e.1)
 · rw [←aK,lD,List.length_append]
   omega
theorem eU {u:ByteArray} {A x:Sc.Bs} (hu:u.data.toList=A++47::x) (hx:∀ c ∈ x,c≠47):Dk.bU u=if A=[] then ⟨#[47]⟩ else ⟨A.toArray⟩:=by
 have hz:u.size=A.length+(x.length+1):=by rw [←aK,hu,List.length_append,List.length_cons]
 have hat:∀ j (hj:j<u.size),u.data[j]! =(A++47::x)[j]'(by rw [List.length_append,List.length_cons];omega):=fun j hj=>by
  rw [getElem!_pos u.data j hj,←Array.getElem_toList];exact List.getElem_of_eq hu _
 have hA:u.data[A.length]! =47:=by
  rw [hat _ (by omega),List.getElem_append_right (Nat.le_refl _)]
  simp
 have hl:Lib.lastIndexByte u 47=(A.length:Int):=by
  unfold Lib.lastIndexByte
  rcases Lib.lastIdx_spec u 47 u.size with ⟨_,h⟩|⟨i,hi,h,h1,h2⟩
  · exact absurd (by rw [hA];rfl) (h A.length (by omega))
  · rw [h]
    rcases Nat.lt_trichotomy i A.length with q|q|q
    · exact absurd (by rw [hA];rfl) (h2 A.length q (by omega))
    · rw [q]
    · exfalso
      obtain ⟨k,rfl⟩:∃ k,i=A.length+1+k:=⟨i - A.length - 1,by omega⟩;have hk:k<x.length:=by omega
      rw [hat _ hi,List.getElem_append_right (by omega)] at h1
      have e:(47::x)[A.length+1+k - A.length]'(by rw [List.length_cons];omega)=x[k]:=by
       have:A.length+1+k - A.length=k+1:=by omega
       simp only [this,List.getElem_cons_succ]
      rw [e] at h1;exact hx _ (List.getElem_mem hk) (UInt8.toNat_inj.1 (by have:(x[k].toNat:Int)=47:=h1;show x[k].toNat=47;omega))
 unfold Dk.bU;rw [hl]
 by_cases h0:A=[]
 · rw [if_pos h0,if_pos (by rw [h0];rfl)]
 · have hp:=List.length_pos_iff.2 h0
   rw [if_neg h0,if_neg (by omega)];refine aY ?_;rw [ByteArray.toList_eq,ByteArray.toList_eq,Dk.lC,hu]
   simp
theorem sN (p:List ByteArray):(⟨(aJ p).toArray⟩:ByteArray)=aL p:=rfl
theorem iZ (D:DataW Unit):Dk.bS D ⟨#[47]⟩=2:=by
 unfold Dk.bS;rw [if_pos (by rw [ByteArray.toList_eq];rfl)]
theorem sO {fs:List Dk.Fl} (hd:fs.Pairwise fun x y=>x.1≠y.1) {f:Dk.Fl} (hf:f ∈ fs) (hp:Dk.bT f.1=true):Dk.bS (Dk.bB fs) f.1=if f.2.1=true then 2 else 1:=by
 have hr:((f.1).toList==[47])=false:=by
  unfold Dk.bT at hp;simp only [Bool.and_eq_true,Bool.not_eq_true'] at hp;exact hp.2
 unfold Dk.bS;rw [if_neg (by rw [hr];decide),if_pos ((Dk.qC _ _).2 ⟨f,hf,rfl⟩),Dk.PA _ hd f hf];rfl
theorem GM {fs:List Dk.Fl} (hd:fs.Pairwise fun x y=>x.1≠y.1) {f:Dk.Fl} (hf:f ∈ fs) (hp:Dk.bT f.1=true) (h:f.2.1=true):Dk.bS (Dk.bB fs) f.1=2:=by rw [sO hd hf hp,if_pos h]
theorem MP {D:DataW Unit} {s:ByteArray} (h:Dk.bS D (Dk.bU s)=2):Dk.dE D s=0:=by
 unfold Dk.dE;rw [h];rfl
noncomputable def iM (mt lt:ByteArray) (pr:Bool) (L:List Dr):List Dk.Fl:=(fH mt lt pr L).map flF
theorem fL {L:List Dr} (h:TrOk L) {pr:Bool} {mt lt:ByteArray} {f:Dk.Fl}:f ∈ iM mt lt pr L↔∃ a ∈ caP pr L,flF (caF mt lt a)=f:=by
 unfold iM;rw [List.mem_map]
 constructor
 · rintro ⟨y,hy,rfl⟩
   obtain ⟨a,ha,rfl⟩:=((eE h pr mt lt).2.1 y).1 hy;exact ⟨a,(kT h).2 ha,rfl⟩
 · rintro ⟨a,ha,rfl⟩
   exact ⟨_,((eE h pr mt lt).2.1 _).2 ⟨a,(kT h).1 ha,rfl⟩,rfl⟩
theorem jZ {L:List Dr} (h:TrOk L) (pr:Bool) (mt lt:ByteArray):(iM mt lt pr L).Pairwise fun x y=>x.1≠y.1:=by
 unfold iM;rw [List.pairwise_map];refine (eE h pr mt lt).1.imp fun {x y} q e=> ?_
 have e2:x.pa=y.pa:=e;rw [e2,vW.irr] at q;omega
theorem sP {L:List Dr} (h:TrOk L) {pr:Bool} {mt lt:ByteArray} {f:Dk.Fl} (hf:f ∈ iM mt lt pr L):Dk.bT f.1=true:=by
 obtain ⟨a,ha,rfl⟩:=(fL h).1 hf;exact nN h mt lt ha
theorem qF {L:List Dr} (h:TrOk L) {pr:Bool} {mt lt:ByteArray} {a:Ca} (ha:a ∈ caP pr L) (hd:(caF mt lt a).dr=true):Dk.bS (Dk.bB (iM mt lt pr L)) (caF mt lt a).pa=2:=
 GM (jZ h pr mt lt) (f:=flF (caF mt lt a)) ((fL h).2 ⟨a,ha,rfl⟩) (nN h mt lt ha) hd
theorem uE {L:List Dr} {pr:Bool} {i:Nat} (hi:i<L.length) (hne:i≠0):Ca.dir L[i].pa ∈ caP pr L∧Ca.mod (upP L[i].pa) ∈ caP pr L∧Ca.pkg L[i] ∈ caP pr L:=by
 unfold caP;refine ⟨?_,?_,?_⟩<;>exact List.mem_append_right _ (List.mem_flatMap.2 ⟨L[i],cD.2 ⟨i,hi,hne,rfl⟩,by simp⟩)
theorem PD {L:List Dr} (h:TrOk L) {pr:Bool} {mt lt:ByteArray} {a:Ca} (ha:a ∈ caP pr L):Dk.bS (Dk.bB (iM mt lt pr L)) (Dk.bU (caF mt lt a).pa)=2:=by
 have hl:=lD mt lt a;have ha0:=ha;unfold caP at ha
 rcases List.mem_append.1 ha with ha|ha
 · rcases kU ha with rfl|rfl|rfl
   · rw [eU (A:=[]) (x:=[109,97,110,105,102,101,115,116]) hl (by decide),if_pos rfl]
     exact iZ _
   · rw [eU (A:=[]) (x:=[108,111,99,107]) hl (by decide),if_pos rfl]
     exact iZ _
   · rw [eU (A:=[]) (x:=[112,114,117,110,101,100]) hl (by decide),if_pos rfl]
     exact iZ _
 · obtain ⟨d,hd,ha⟩:=List.mem_flatMap.1 ha
   obtain ⟨i,hi,hne,rfl⟩:=cD.1 hd;obtain ⟨h0,hn,hz,_⟩:=h.names i hi hne;simp only [List.mem_cons,List.not_mem_nil,or_false] at ha
   rcases ha with rfl|rfl|rfl
   · rw [eU (A:=aJ (upP L[i].pa)) (x:=rD) hl uD]
     split
     · exact iZ _
     · rename_i hne2
       obtain ⟨q,hq,hqi,e⟩:=h.above i hi hne;have e2:upP L[i].pa=L[q].pa:=e.symm
       have hq0:q≠0:=fun z=>by
        subst z;rw [e2,h.root hq] at hne2;exact hne2 rfl
       rw [sN,e2];exact qF (mt:=mt) (lt:=lt) h (uE (pr:=pr) hq hq0).1 rfl
   · obtain ⟨q,s,e⟩:∃ q s,L[i].pa=q++[s]:=⟨L[i].pa.dropLast,L[i].pa.getLast h0,(List.dropLast_concat_getLast h0).symm⟩
     have hs:Sc.aG s.data.toList=true:=by
      unfold aI at hn;rw [List.all_eq_true] at hn;exact hn s (by rw [e];simp)
     have hup:upP L[i].pa=q:=by
      unfold upP;rw [e]
      simp
     have hm:=(uE (pr:=pr) hi hne).2.1;have hk:=qF (mt:=mt) (lt:=lt) h hm rfl;rw [eU (A:=aJ q++47::rD) (x:=s.data.toList) ?_ (yA hs),if_neg (by simp)]
     · have e3:(⟨(aJ q++47::rD).toArray⟩:ByteArray)=(caF mt lt (.mod (upP L[i].pa))).pa:=by
        refine aY ?_;rw [ByteArray.toList_eq,ByteArray.toList_eq,lD,hup];show (aJ q++47::rD).toArray.toList=aJ q++fO.data.toList;rfl
       rw [e3];exact hk
     · rw [hl]
       show aJ L[i].pa++[]=_;rw [e,dY];show aJ q++(47::(rD++[47]))++s.data.toList++[]=_
       simp
   · rw [eU (A:=aJ L[i].pa) (x:=[112,97,99,107,97,103,101]) hl (by decide),if_neg (fun z=>h0 (sM hn z)),sN]
     exact qF (mt:=mt) (lt:=lt) h (uE (pr:=pr) hi hne).1 rfl
theorem SA {L:List Dr} (h:TrOk L) {pr:Bool} (mt lt:ByteArray) {a:Ca} (ha:a ∈ caP pr L):Dk.okF (flF (caF mt lt a))=true:=by
 unfold Dk.okF;have hp:Dk.bT (flF (caF mt lt a)).1=true:=nN h mt lt ha;rw [hp];cases a<;>first|rfl|(simp [flF,caF])
theorem yB {L:List Dr} (h:TrOk L) (pr:Bool) (mt lt:ByteArray):Dk.hQ (iM mt lt pr L):=by
 refine ⟨fun i hi=> ?_,fun i hi=> ?_⟩
 · obtain ⟨a,ha,e⟩:=(fL h).1 (List.getElem_mem hi)
   refine ⟨by rw [←e];exact SA h mt lt ha,?_⟩;refine Dk.iX ?_ ?_
   · have hp:=sP h (List.getElem_mem hi)
     unfold Dk.bT at hp;simp only [Bool.and_eq_true,Bool.not_eq_true'] at hp;exact hp.2
   · rw [Bool.eq_false_iff]
     intro hh;obtain ⟨f,hf,e2⟩:=(Dk.qC _ _).1 hh;obtain ⟨j,hj,rfl⟩:=List.getElem_of_mem hf;rw [List.length_take] at hj;rw [List.getElem_take] at e2;exact List.pairwise_iff_getElem.1 (jZ h pr mt lt) j i (by omega) hi (by omega) e2
 · obtain ⟨a,ha,e⟩:=(fL h).1 (List.getElem_mem hi)
   rw [←e];exact MP (PD h ha)
theorem MQ {L:List Dr} (h:TrOk L) {pr:Bool} {mt lt:ByteArray} {q:List ByteArray} (hq:aI q=true):Dk.bS (Dk.bB (iM mt lt pr L)) (aL q++cY)=1↔∃ i,∃ hi:i<L.length,i≠0∧L[i].pa=q:=by
 constructor
 · intro hk
   have hh:Maps.has (Dk.bB (iM mt lt pr L)) (Dk.dS (aL q++cY))=true:=by
    cases hx:Maps.has (Dk.bB (iM mt lt pr L)) (Dk.dS (aL q++cY)) with
    |true=>rfl
    |false=>
     have hr:((aL q++cY).toList==[47])=false:=qD (aL q);rw [Dk.iX hr hx] at hk;cases hk
   obtain ⟨f,hf,e⟩:=(Dk.qC _ _).1 hh;obtain ⟨a,ha,rfl⟩:=(fL h).1 hf;have ht:=KI (mt:=mt) (lt:=lt) (tP h ha);have e1:(caF mt lt a).pa=aL q++cY:=e;rw [e1,AL hq cY (by decide) (c:=101) (by decide)] at ht;have ho:=tP h ha;cases a with
   |pkg d=>
    have hd:=(OW (pr:=pr)).1 ((kT h).1 ha);obtain ⟨i,hi,hne,rfl⟩:=cD.1 hd;exact ⟨i,hi,hne,gW ho.1 hq (jT e1)⟩
   |man=>exact absurd (show (101:Nat)=116 from ht) (by decide)
   |lok=>exact absurd (show (101:Nat)=107 from ht) (by decide)
   |pru=>exact absurd (show (101:Nat)=100 from ht) (by decide)
   |mod p=>exact absurd (show (101:Nat)=115 from ht) (by decide)
   |dir p=>exact absurd (show (101:Nat)=0 from ht) (by decide)
 · rintro ⟨i,hi,hne,rfl⟩
   have ha:=(uE (pr:=pr) hi hne).2.2;have q:=sO (jZ h pr mt lt) (f:=flF (caF mt lt (.pkg L[i]))) ((fL h).2 ⟨_,ha,rfl⟩) (nN h mt lt ha);exact q
theorem PE {L:List Dr} (h:TrOk L) {q:List ByteArray} (h0:q≠[]):(bD L q≠ -1)↔∃ i,∃ hi:i<L.length,i≠0∧L[i].pa=q:=by
 rcases cU L q with ⟨e,hall⟩|⟨k,hk,e,hp,_⟩
 · rw [e]
   exact ⟨fun z=>absurd rfl z,fun ⟨i,hi,_,z⟩=>absurd z (hall i hi)⟩
 · rw [e]
   refine ⟨fun _=>⟨k,hk,fun z=> ?_,hp⟩,fun _=>by omega⟩;subst z;rw [h.root hk] at hp;exact h0 hp.symm
def atO (L:List Dr) (n:Int):Option ByteArray:=if n<0 then none else (L[n.toNat]?).map fun d=>aF d.pa
theorem PF {L:List Dr} (h:TrOk L) {pr:Bool} {mt lt:ByteArray} {p:List ByteArray} {s:ByteArray} (hp:aI p=true) (hs:Sc.aG s.data.toList=true):∀ k,odN (Dk.bB (iM mt lt pr L)) p s k=atO L (dU L p s k):=by
 have one:∀ k,(odK (Dk.bB (iM mt lt pr L)) p s k=1↔bD L (p.take k++[s])≠ -1):=fun k=>by
  unfold odK;rw [BO hp hs];exact (MQ h (jY hp hs k)).trans (PE h (by simp)).symm
 have hit:∀ k,bD L (p.take k++[s])≠ -1→some (odT p s k)=atO L (bD L (p.take k++[s])):=fun k hne=>by
  rcases cU L (p.take k++[s]) with ⟨e,_⟩|⟨j,hj,e,hpj,_⟩
  · exact absurd e hne
  · rw [e]
    unfold atO;rw [if_neg (by omega),show ((j:Int)).toNat=j by omega,List.getElem?_eq_getElem hj,Option.map_some,hpj];rfl
 intro k
 induction k with
 |zero=>
  by_cases c:bD L (p.take 0++[s])= -1
  · have:odK (Dk.bB (iM mt lt pr L)) p s 0≠1:=fun q=>(one 0).1 q c
    rw [BN this];show none=atO L (bD L (p.take 0++[s]));rw [c];rfl
  · rw [BM ((one 0).2 c),hit 0 c]
    rfl
 |succ k ih=>
  by_cases c:bD L (p.take (k+1)++[s])= -1
  · have:odK (Dk.bB (iM mt lt pr L)) p s (k+1)≠1:=fun q=>(one _).1 q c
    rw [nM this,ih,iR c]
  · rw [BM ((one _).2 c),hit _ c,kK c]
theorem MR {L:List Dr} (h:TrOk L) {pr:Bool} {mt lt:ByteArray} {i:Nat} (hi:i<L.length) (s:ByteArray):odV (Dk.bB (iM mt lt pr L)) (aF L[i].pa) s=atO L (bE L (i:Int) s):=by
 have hn:L[i].pa=[]∨aI L[i].pa=true:=by
  rcases Nat.eq_zero_or_pos i with rfl|h0
  · exact Or.inl (h.root hi)
  · exact Or.inr (h.names i hi (by omega)).2.1
 have hnb:aI L[i].pa=true:=by
  rcases hn with e|e
  · rw [e];rfl
  · exact e
 by_cases hs:Sc.aG s.data.toList=true
 · rw [DY (jQ hn) hs,PF h hnb hs,vK hi hs]
 · have hs2:Sc.aG s.data.toList=false:=by simpa using hs
   rw [BP (Or.inr hs2),rN (fun q=>hs q.2.2)];rfl
theorem BR {L:List Dr} (h:TrOk L) {i:Nat} (s:ByteArray):bE L (i:Int) s<(L.length:Int):=by
 have hl:=h.len;unfold bE
 split
 · rename_i c
   generalize (L[((i:Int)).toNat]'c.2.1).pa=p;generalize p.length=k
   induction k with
   |zero=>
    show bD L _<_
    rcases cU L (p.take 0++[s]) with ⟨e,_⟩|⟨j,hj,e,_⟩<;>rw [e]<;>omega
   |succ k ih=>
    by_cases c2:bD L (p.take (k+1)++[s])= -1
    · rw [iR c2]
      exact ih
    · rw [kK c2]
      rcases cU L (p.take (k+1)++[s]) with ⟨e,_⟩|⟨j,hj,e,_⟩<;>rw [e]<;>omega
 · omega
end Go.Proofs.YtlmpiohbmlddiaaGreatDoor
namespace Go.Proofs.YtlmpiohbmlddiaaGreatDoor
open Go.RowKit Go.Maps Go.WideMaps
set_option maxRecDepth 100000
def yC (w:World) (g o:Nat) (x:Fi):Prop:=(w.cell? ⟨g,o,none⟩=some (.string x.pa)∧w.cell? ⟨g,o+1,none⟩=some (.bool x.dr)∧w.cell? ⟨g,o+2,none⟩=some (.string x.da))∧g<w.heap.size
theorem uF (g o:Nat) (x:Fi):KeepP fun w=>yC w g o x:=fun _ _ h hb=>⟨⟨(hb.cell (p:=⟨g,o,none⟩) h.2).trans h.1.1,(hb.cell (p:=⟨g,o+1,none⟩) h.2).trans h.1.2.1,(hb.cell (p:=⟨g,o+2,none⟩) h.2).trans h.1.2.2⟩,Nat.lt_of_lt_of_le h.2 hb.size⟩
def FlsAt (w:World) (v:Value) (fs:List Fi):Prop:=∃ a c,v= .slice a fs.length c∧fs.length≤c∧∀ i (hi:i<fs.length),∃ g o,a=some ⟨g,o,none⟩∧yC w g (o+i*3) fs[i]
theorem FlsAt.below {w w':World} {v:Value} {fs:List Fi} (h:FlsAt w v fs) (hb:Below w.heap.size w w'):FlsAt w' v fs:=by
 obtain ⟨a,c,e,hc,hf⟩:=h;refine ⟨a,c,e,hc,fun i hi=> ?_⟩;obtain ⟨g,o,e,h⟩:=hf i hi;exact ⟨g,o,e,uF _ _ _ _ _ h hb⟩
set_option maxHeartbeats 2000000 in
theorem MT (n:Nat) (hn:1≤n) (l Bm:Nat) {w:World} {a:Option Addr} {c:Nat} {ts:List Fi} (hts:∀ i (hi:i<ts.length),∃ g o,a=some ⟨g,o,none⟩∧yC w g (o+i*3) ts[i]) (hz:ts.length≤1000000) (J:List Fi→World→Prop)
 (hJb:∀ V W1,J V W1→Below w.heap.size w W1)
 (hY:∀ pre x W,J pre W→pre.length<ts.length→YieldAt Fence.wide (n - 1) Tryz.prog l #[eV x] W fun e W'=>e= .returned (.bool true)∧J (pre++[x]) W'∧KeepsWalks W W')
 (W:World) (hJ:AbidesFrom W.heap.size J) (hm:w.cell? ⟨Bm,0,none⟩=some (.slice a ts.length c)) (hBm:Bm<w.heap.size) (h0:J [] W):
 CallsIn Fence.wide n Tryz.prog 85 #[.func (.yield l) #[] #[],.pointer (some ⟨Bm,0,none⟩)] W fun e W'=>(∃ v,e= .returned v)∧∃ V:List Fi,V=ts∧J V W':=by
 refine callsIn_of_wp Tryz.func85 rfl trivial ?_ rfl;simp only [Tryz.ntmps85,List.size_toArray,List.length_cons,List.length_nil,Nat.reduceAdd,Nat.reduceSub,Array.replicate_succ,Array.replicate_zero,List.push_toArray,List.append_toArray,List.nil_append,List.cons_append];have hm0:W.cell? ⟨Bm,0,none⟩=some (.slice a ts.length c):=((hJb _ _ h0).cell (p:=⟨Bm,0,none⟩) hBm).trans hm
 gi_wp2
 gi_loopw [7] (fun vi wr=>∃ k:Nat,k≤ts.length∧vi= .int .i64 k∧J (ts.take k) wr) (fun vi _=>ts.length - (intOf vi).toNat)
 case atStart=>exact ⟨0,Nat.zero_le _,rfl,by rw [List.take_zero];exact h0⟩
 case round=>
  obtain ⟨k,hk,rfl,hJs⟩:=hrel
  by_cases hlt:k<ts.length
  · have hki:(k:Int)<(ts.length:Int):=by omega
    obtain ⟨g,o,rfl,hfl⟩:=hts k hlt;obtain ⟨⟨f0,f1,f2⟩,_⟩:=uF _ _ _ _ _ hfl (hJb _ _ hJs);have hJ3:J (ts.take k) (wr.alloc (.cells #[.string ts[k].pa,.bool ts[k].dr,.string ts[k].da] 45)):=hJ _ wr _ none hJs (World.grownBy_alloc _ _ _) (fun r e=>by cases e);have hen:ts.take (k+1)=ts.take k++[ts[k]]:=List.take_succ_eq_append_getElem hlt;obtain ⟨fn,tmps,assign,body,hy,hR⟩:=hY (ts.take k) ts[k] _ hJ3 (by rw [List.length_take];omega);rw [←hen] at hR;unfold eV at hy;clear hen hfl hJs hJ3;generalize ts[k]=x at*
    gi_wp2
    refine hR.mono ?_;rintro e W3 ⟨rfl,hJ4,hk3⟩
    gi_wp2
    go_roundw
    case rel=>exact ⟨k+1,by omega,by go_num,hJ4⟩
    case measure=>simp [intOf];omega
  · obtain rfl:k=ts.length:=by omega
    rw [List.take_length] at hJs
    gi_wp2
    go_end0
    exact ⟨⟨_,rfl⟩,ts,rfl,hJs⟩
theorem yD (n:Nat) (hn:1≤n) (Bm:Nat) {w:World} {a:Option Addr} {c:Nat} {ts:List Fi} (hts:∀ i (hi:i<ts.length),∃ g o,a=some ⟨g,o,none⟩∧yC w g (o+i*3) ts[i]) (hz:ts.length≤1000000) (hm:w.cell? ⟨Bm,0,none⟩=some (.slice a ts.length c)) (hBm:Bm<w.heap.size):
 EF Fence.wide n Tryz.prog 85 #[.pointer (some ⟨Bm,0,none⟩)] eV (fun V=>V=ts) ts.length w:=fun l J W _ hJ hJb hY h0=>
 MT n hn l Bm hts hz J hJb hY W hJ hm hBm h0
theorem yE (a:Option Addr) (k c:Nat) (w:World):Calls Tryz.prog 34 #[.slice a k c] w fun e w'=>e= .returned (.func (.func 85) #[] #[.pointer (some ⟨w.heap.size,0,none⟩)])∧w'=w.alloc (.cells #[.slice a k c] 33):=by
 go_enter Tryz.func34,Tryz.ntmps34
 go_wp2
 go_ret;exact ⟨rfl,rfl⟩
theorem yF {w:World} {a:Option Addr} {c:Nat} {ts:List Fi} (h:FlsAt w (.slice a ts.length c) ts) (hz:ts.length≤1000000):
 Calls Tryz.prog 23 #[.func (.func 85) #[] #[.pointer (some ⟨w.heap.size,0,none⟩)]] (w.alloc (.cells #[.slice a ts.length c] 33)) fun e w'=>∃ (v:Value) (us:List Fi),e= .returned v∧(us.Perm ts∧jN us)∧w'.ownsRow w.heap.size 45 3 v us.length (us.flatMap dG)∧Below w.heap.size w w':=by
 have hb:Below w.heap.size w (w.alloc (.cells #[.slice a ts.length c] 33)):=(Below.refl _ _).alloc (Nat.le_refl _) _;obtain ⟨a',c',e,_,hf⟩:=h.below hb;cases e;have hs:=mI 85 #[.pointer (some ⟨w.heap.size,0,none⟩)] (enters_of Tryz.func85 (by kernel_rfl) rfl) (fun V=>V=ts) ts.length hz (fun V hV=>by rw [hV];omega) _ (yD 4 (by decide) w.heap.size hf hz (by rw [World.cell?_alloc_new];rfl) (by simp));refine hs.mono ?_;rintro e w' ⟨v,V,us,rfl,rfl,hp,ho,hbb⟩;have hsz:w.heap.size≤(w.alloc (.cells #[.slice a V.length c] 33)).heap.size:=by simp
 exact ⟨v,us,rfl,hp,⟨ho.1,ho.2.imp id fun ⟨g,cap,cur,h1,h2,r⟩=>⟨g,cap,cur,h1,Nat.le_trans hsz h2,r⟩⟩,hb.trans (hbb.mono hsz)⟩
end Go.Proofs.YtlmpiohbmlddiaaGreatDoor
namespace Go.Proofs.YtlmpiohbmlddiaaGreatDoor
open Go.RowKit Go.Lib Go.Sort
set_option maxRecDepth 100000
theorem TG {P:Mn} {G:List Nd} {L:List Dr} (h:dN P G L=true) {i:Nat} (hi:i<L.length):∃ y:Nat,y<G.length∧L[i].nd=(y:Int):=by
 have k:=iOk h;obtain ⟨h1,h2,h3⟩:=eT (iW h);cases hm:fG L G with
 |none=>rw [hm] at h3;cases h3
 |some m=>
  obtain ⟨hl,_,hr,_⟩:=lX k.ok.len.1 h2 hm
  have hmo:dQ L G=m:=by
   unfold dQ;rw [if_pos ⟨h1,h2⟩,hm];rfl
  have hn:L.map Dr.nd=m:=k.nds.trans hmo
  have e:L[i].nd=m[i]'(by omega):=by
   have q:=List.getElem_of_eq hn (i:=i) (by rw [List.length_map];exact hi)
   rwa [List.getElem_map] at q
  have hpos:0≤L[i].nd:=by
   rcases Nat.eq_zero_or_pos i with rfl|h0
   · rw [k.root hi]
     decide
   · have q:=(cJ.1 h1).2.2 i hi (by omega)
     rw [oR hi] at q;unfold oP at q;simp only [Bool.and_eq_true,decide_eq_true_eq] at q
     have:=q.1.1.1.1.2
     omega
  rcases hr i (by omega) with q|⟨q1,q2⟩
  · rw [e,q] at hpos
    omega
  · exact ⟨L[i].nd.toNat,by rw [e];omega,by omega⟩
theorem PG (t s:ByteArray):odV (Dk.bB []) t s=none:=by
 unfold odV;cases aU t.data.toList with
 |none=>rfl
 |some p=>
  show (if Sc.aG s.data.toList=true then odN (Dk.bB []) p s p.length else none)=none
  split
  · have one:∀ k,odK (Dk.bB []) p s k≠1:=fun k=>by
     unfold odK;rw [Dk.iX (qD _) (Dk.DW _)];decide
    generalize p.length=k
    induction k with
    |zero=>exact BN (one 0)
    |succ k ih=>rw [nM (one _),ih]
  · rfl
theorem MU (s:ByteArray) (i:Nat):bE [drZ] (i:Int) s= -1:=by
 unfold bE
 split
 · rename_i c
   have hi:i=0:=by
    have:=c.2.1
    simp only [List.length_singleton] at this;omega
   subst hi;show bD [drZ] ([]++[s])= -1
   rcases cU [drZ] ([]++[s]) with ⟨e,_⟩|⟨j,hj,_,e,_⟩
   · exact e
   · simp only [List.length_singleton] at hj
     obtain rfl:j=0:=by omega
     cases e
 · rfl
noncomputable def lE (P:Mn) (G:List Nd) (L:List Dr) (pr:Bool):List Dk.Fl:=(eM P G L pr).map flF
theorem uG {P:Mn} {G:List Nd} {L:List Dr} {pr:Bool} (h:dN P G L=true):(lE P G L pr=[]∧L=[drZ])∨lE P G L pr=iM (aH P) (Lo.prT G) pr L:=by
 unfold lE eM;cases he:eL P G L pr
 · rw [if_pos ⟨h,rfl⟩]
   exact Or.inr rfl
 · rw [if_neg (by simp)]
   exact Or.inl ⟨rfl,(GC (iOk h) he).1⟩
theorem GN {P:Mn} {G:List Nd} {L:List Dr} {pr:Bool} (h:dN P G L=true):Dk.hQ (lE P G L pr):=by
 rcases uG (pr:=pr) h with ⟨e,_⟩|e
 · rw [e]
   exact ⟨fun i hi=>(by cases hi),fun i hi=>(by cases hi)⟩
 · rw [e]
   exact yB (iOk h).ok _ _ _
theorem PH {P:Mn} {G:List Nd} {L:List Dr} {pr:Bool} (h:dN P G L=true) {i:Nat} (hi:i<L.length) (s:ByteArray):odV (Dk.bB (lE P G L pr)) (aF L[i].pa) s=atO L (bE L (i:Int) s):=by
 rcases uG (pr:=pr) h with ⟨e,e2⟩|e
 · rw [e,PG,e2,MU]
   rfl
 · rw [e]
   exact MR (iOk h).ok hi s
theorem GO {G:List Nd}:(Lo.prT G).size≤9223372036854775807:=by
 unfold Lo.prT
 split
 · rename_i h
   have:=(Lo.sC h).2
   unfold Lo.sA;rw [Sc.sU];exact Nat.le_trans this (by decide)
 · decide
theorem rE {P:Pg}:(bF P).size≤9223372036854775807:=by
 unfold bF
 split
 · rename_i h
   unfold aS at h;rw [Bool.and_eq_true,decide_eq_true_eq] at h
   have:(⟨(kM P).toArray⟩:ByteArray).size=(kM P).length:=by rw [←aK]
   omega
 · decide
theorem qG {P:Mn}:(aH P).size≤9223372036854775807:=by
 unfold aH
 split
 · rename_i h
   unfold aM at h;rw [Bool.and_eq_true,decide_eq_true_eq] at h
   have:(⟨(mN P).toArray⟩:ByteArray).size=(mN P).length:=by rw [←aK]
   omega
 · decide
theorem GP {P:Mn} {G:List Nd} {L:List Dr} {pr:Bool} (h:dN P G L=true):∀ f ∈ lE P G L pr,f.1.size≤maxLen∧f.2.2.size≤maxLen:=fun f hf=>by
 have hM:maxLen=9223372036854775807:=rfl;rw [hM]
 rcases uG (pr:=pr) h with ⟨e,_⟩|e
 · rw [e] at hf
   cases hf
 · rw [e] at hf
   refine ⟨?_,?_⟩
   · have:=xX (sP (iOk h).ok hf)
     omega
   · obtain ⟨a,_,rfl⟩:=(fL (iOk h).ok).1 hf
     cases a with
     |man=>exact qG
     |lok=>exact GO
     |pkg d=>exact rE
     |_=>exact (by decide:(⟨#[]⟩:ByteArray).size≤9223372036854775807)
theorem DZ {P:Mn} {G:List Nd} {L:List Dr} {pr:Bool}:(lE P G L pr).length=(eM P G L pr).length:=by unfold lE;rw [List.length_map]
theorem FlsAt.files {W:World} {v:Value} {fs:List Fi} (h:FlsAt W v fs):∃ a c,v= .slice a fs.length c∧Dk.nL W a (fs.map flF):=by
 obtain ⟨a,c,e,_,hf⟩:=h;refine ⟨a,c,e,?_⟩
 rcases Nat.eq_zero_or_pos fs.length with h0|h0
 · exact Or.inl (by rw [List.eq_nil_of_length_eq_zero h0];rfl)
 · obtain ⟨g,o,ea,h1⟩:=hf 0 h0
   refine Or.inr ⟨g,o,ea,h1.2,fun k hk=> ?_⟩;rw [List.length_map] at hk;obtain ⟨g',o',e2,h2⟩:=hf k hk;rw [ea] at e2;cases e2;rw [List.getElem_map];exact ⟨h2.1.1,h2.1.2.1,h2.1.2.2⟩
theorem PI {L:List Dr} (h:TrOk L) (i:Nat) (s:ByteArray):bE L (i:Int) s= -1∨∃ j,∃ _:j<L.length,bE L (i:Int) s=(j:Int):=by
 have hb:=BR h (i:=i) s
 rcases Int.lt_or_le (bE L (i:Int) s) 0 with q|q
 · left
   unfold bE at q ⊢
   split
   · rename_i c
     rw [dif_pos c] at q;revert q;generalize (L[((i:Int)).toNat]'c.2.1).pa=p;generalize p.length=k;intro q
     induction k with
     |zero=>
      have q2:bD L (p.take 0++[s])<0:=q;show bD L (p.take 0++[s])= -1
      rcases cU L (p.take 0++[s]) with ⟨e,_⟩|⟨j,_,e,_⟩
      · exact e
      · omega
     |succ k ih=>
      by_cases c2:bD L (p.take (k+1)++[s])= -1
      · rw [iR c2] at q ⊢
        exact ih q
      · rw [kK c2] at q
        rcases cU L (p.take (k+1)++[s]) with ⟨e,_⟩|⟨j,_,e,_⟩
        · exact absurd e c2
        · omega
   · rfl
 · exact Or.inr ⟨(bE L (i:Int) s).toNat,by omega,by omega⟩
theorem PJ {B:Nat} {wx:World} {n:Nat} {v:Value} {xs:List Value} {x:ByteArray} {ops:Array Oper} {rest:List Oper} {o:Oper} {f:Act} {Q:Exit→Act→World→Prop}
 (hgd:o.guard=none) (s t:Operand) (ho:o.op= .call { callee:= .builtin .append,args:= #[s,t],argTypes:= #[50,50] }) (hs:f.eval s=v)
 (hown:wx.ownsRow B 9 1 v n xs) (hB:B≤wx.heap.size) {M:Nat} (hM:wx.heap.size=M) (hx:f.eval t= .slice (some ⟨M,0,none⟩) 1 1) (hlen:n≤1000000)
 (h:∀ v1 w1,w1.ownsRow B 9 1 v1 (n+1) (xs++[.string x])→(wx.alloc (.cells #[.string x] 9)).grownBy w1 v.ownBlock→(v1.ownBlock=v.ownBlock∨v1.ownBlock=some (wx.heap.size+1))→wpList Tryz.prog ops Q rest (f.put o.dst v1) w1):
 wpList Tryz.prog ops Q (o::rest) f (wx.alloc (.cells #[.string x] 9)):=by
 subst hM;have hinfo:(Tryz.prog.info? 9).map (fun i=>(i.zero,i.size,i.bytes))=some (some (.string ByteArray.empty),1,16):=by kernel_rfl
 obtain ⟨i0,hi,hz0,hz1,hz2⟩:=Sc.bO hinfo;refine wpList_append_own_at _ hgd s t 50 ho B 9 i0 _ 1 16 Tryz.underlying50 hi hz0 hz1 hz2 rfl (by decide) v n xs hs (hown.alloc _) ⟨wx.heap.size,0,none⟩ 1 1 [.string x] hx rfl (cell_one_new _ _ _) (fun u hu=>by rw [List.mem_singleton.1 hu];rfl) (by unfold maxLen;omega) (by omega) (by simp;omega) ?_;intro v1 w1 h1 h2 _ h4;exact h v1 w1 h1 h2 (by rw [show (wx.alloc (.cells #[.string x] 9)).heap.size=wx.heap.size+1 by simp] at h4;exact h4)
theorem GQ (w:World) {B:Nat} (hB:B≤w.heap.size) (s:ByteArray):(w.alloc (.cells #[.string s] 9)).ownsRow B 9 1 (.slice (some ⟨w.heap.size,0,none⟩) 1 1) 1 [.string s]:=by
 refine ⟨rfl,Or.inr ⟨w.heap.size,1,#[.string s],rfl,hB,World.alloc_heap_new w _,Nat.le_refl _,by decide,rfl,rfl⟩⟩
def mA (s:ByteArray) (E:List Eg):List ByteArray:=s::E.map Eg.lb
theorem GR {s:ByteArray} {E:List Eg} {k:Nat} (hk:k<E.length):pcs (mA s (E.take (k+1)))=pcs (mA s (E.take k))++[.string E[k].lb]:=by
 unfold mA pcs;rw [List.take_succ_eq_append_getElem hk,List.map_append,List.map_cons,List.map_cons,List.map_append];rfl
def NmL (W:World) (s:ByteArray) (E:List Eg) (vn vk:Value) (wr:World):Prop:=∃ k g c,k≤E.length∧vk= .int .i64 (k:Nat)∧vn= .slice (some ⟨g,0,none⟩) (k+1) c∧wr.ownsRow W.heap.size 9 1 vn (k+1) (pcs (mA s (E.take k)))∧Below W.heap.size W wr
end Go.Proofs.YtlmpiohbmlddiaaGreatDoor
namespace Go.Proofs.YtlmpiohbmlddiaaGreatDoor
open Go.RowKit
set_option maxRecDepth 100000
theorem MV (fs:List Fi):(fs.flatMap dG).length=fs.length*3:=by
 induction fs with
 |nil=>rfl
 |cons x fs ih=>rw [List.flatMap_cons,List.length_append,ih,List.length_cons];simp [dG];omega
end Go.Proofs.YtlmpiohbmlddiaaGreatDoor
namespace Go.Proofs.YtlmpiohbmlddiaaGreatDoor
open Go.RowKit Go.Maps Go.WideMaps
set_option maxRecDepth 100000
theorem PK {w:World} {B:Nat} {v:Value} {ts:List Fi} (h:OwnFi w B v ts):(v= .slice none 0 0∧ts=[])∨∃ g cap,v= .slice (some ⟨g,0,none⟩) ts.length cap∧ts.length≤cap∧g<w.heap.size∧B≤g∧∀ j u,(ts.flatMap dG)[j]? =some u→w.cell? ⟨g,j,none⟩=some u:=by
 rcases h.2 with ⟨e,hn⟩|⟨g,cap,cur,rfl,hB,hgg,hc,_,_,ht⟩
 · exact Or.inl ⟨e,List.length_eq_zero_iff.1 hn⟩
 · refine Or.inr ⟨g,cap,rfl,hc,(Array.getElem?_eq_some_iff.1 hgg).1,hB,fun j u hj=> ?_⟩
   have hjl:j<ts.length*3:=by
    have:=(List.getElem?_eq_some_iff.1 hj).1
    rwa [MV] at this
   exact (World.ownsRow.cellAt h j hjl).trans hj
theorem uH (ts:List Fi) (i:Nat) (hi:i<ts.length):(ts.flatMap dG)[i*3]? =some (.string ts[i].pa)∧(ts.flatMap dG)[i*3+1]? =some (.bool ts[i].dr)∧(ts.flatMap dG)[i*3+2]? =some (.string ts[i].da):=by
 haveI:Inhabited Fi:=⟨⟨⟨#[]⟩,false,⟨#[]⟩⟩⟩
 have h:=fun r hr=>fQ dG 3 (fun _=>rfl) ts i r hi hr
 rw [getElem!_pos ts i hi] at h;exact ⟨(h 0 (by decide)).trans rfl,(h 1 (by decide)).trans rfl,(h 2 (by decide)).trans rfl⟩
theorem OwnFi.at {w:World} {B:Nat} {v:Value} {ts:List Fi} (h:OwnFi w B v ts):FlsAt w v ts:=by
 rcases PK h with ⟨rfl,rfl⟩|⟨g,cap,rfl,hc,hg,_,hcell⟩
 · exact ⟨none,0,rfl,Nat.le_refl _,fun i hi=>by cases hi⟩
 · refine ⟨_,cap,rfl,hc,fun i hi=>⟨g,0,rfl,⟨?_,?_,?_⟩,hg⟩⟩
   · rw [Nat.zero_add];exact hcell _ _ (uH ts i hi).1
   · rw [Nat.zero_add];exact hcell _ _ (uH ts i hi).2.1
   · rw [Nat.zero_add];exact hcell _ _ (uH ts i hi).2.2
def SC:Fi:=⟨⟨#[]⟩,false,⟨#[]⟩⟩
def qH (L:List Fi) (s:ByteArray):Option Fi:=L.find? fun x=>decide (x.pa=s)
def cC (L:List Fi) (s:ByteArray):Fi:=(qH L s).getD SC
theorem GS {L:List Fi} {s:ByteArray} {x:Fi} (h:qH L s=some x):x ∈ L∧x.pa=s:=⟨List.mem_of_find?_eq_some h,by have:=List.find?_some (p:=fun y:Fi=>decide (y.pa=s)) h;exact of_decide_eq_true this⟩
theorem GT {L:List Fi} {s:ByteArray} (h:qH L s=none):∀ x ∈ L,x.pa≠s:=fun x hx e=>by
 have:=List.find?_eq_none.1 h x hx
 rw [decide_eq_true_eq] at this;exact this e
theorem nO (w:World):(zeroValue 45).run Tryz.prog w= .ok (.agg #[.string ⟨#[]⟩,.bool false,.string ⟨#[]⟩]) w:=by kernel_rfl
theorem jA {v u:Value} {ps:List MemPlace} (h:dV v=some (.held u,ps)):v=u:=by
 unfold dV at h;injection h with h
 injection h with h _
 injection h
theorem sQ {w:World} {mb n:Nat} {D:DataW Value} {L:List Fi} (h:w.ownsMap Tryz.prog 9 dV mb n D) (hD:MapF D L) (s:ByteArray) (hs:s.size≤maxLen):
 (Instr.lookup 74 (.map (some mb)) (.string s) true).run Tryz.prog w= .ok (.tuple #[.agg #[.string (cC L s).pa,.bool (cC L s).dr,.string (cC L s).da],.bool (qH L s).isSome]) w∧
 (Instr.lookup 74 (.map (some mb)) (.string s) false).run Tryz.prog w= .ok (.agg #[.string (cC L s).pa,.bool (cC L s).dr,.string (cC L s).da]) w:=by
 unfold cC;cases hf:qH L s with
 |some x=>
  obtain ⟨hx,rfl⟩:=GS hf;have hm:=hD.has x hx
  constructor
  · obtain ⟨v,ps,h1,h2⟩:=h.look_ok iA Tryz.underlying74 (nO w) (zd:= .held (.agg #[.string ⟨#[]⟩,.bool false,.string ⟨#[]⟩])) (zp:=[]) rfl (lI hs)
    rw [hm.2] at h2;rw [hm.1] at h1;rw [h1,jA h2];rfl
  · obtain ⟨v,ps,h1,h2⟩:=h.lookup iA Tryz.underlying74 (nO w) (zd:= .held (.agg #[.string ⟨#[]⟩,.bool false,.string ⟨#[]⟩])) (zp:=[]) rfl (lI hs)
    rw [hm.2] at h2;rw [h1,jA h2];rfl
 |none=>
  have hm:Maps.has D (dP s)=false:=by
   rw [Bool.eq_false_iff];intro q;obtain ⟨x,hx,e⟩:=hD.keys _ q;exact GT hf x hx (nQ e).symm
  constructor
  · obtain ⟨v,ps,h1,h2⟩:=h.look_ok iA Tryz.underlying74 (nO w) (zd:= .held (.agg #[.string ⟨#[]⟩,.bool false,.string ⟨#[]⟩])) (zp:=[]) rfl (lI hs)
    rw [atKey_of_not_has hm] at h2;rw [hm] at h1;rw [h1,jA h2];rfl
  · obtain ⟨v,ps,h1,h2⟩:=h.lookup iA Tryz.underlying74 (nO w) (zd:= .held (.agg #[.string ⟨#[]⟩,.bool false,.string ⟨#[]⟩])) (zp:=[]) rfl (lI hs)
    rw [atKey_of_not_has hm] at h2;rw [h1,jA h2];rfl
theorem EA (w:World) (p:ByteArray) (d:Bool) (t:ByteArray):(Instr.field 45 (.agg #[.string p,.bool d,.string t]) 2).run Tryz.prog w= .ok (.string t) w:=by kernel_rfl
set_option maxHeartbeats 3200000 in
theorem yG {ts:List Fi} {v:Value} {w:World} (h:FlsAt w v ts) (hz:ts.length≤1000000) (hs:∀ x ∈ ts,x.pa.size≤maxLen):
 Calls Tryz.prog 86 #[v] w fun e w'=>e= .returned (.map (some w.heap.size))∧(∃ n D,w'.ownsMap Tryz.prog 9 dV w.heap.size n D∧MapF D (ts.foldl aR []))∧Below w.heap.size w w':=by
 have hmm:= @run_makeMap Tryz.prog;obtain ⟨a,c,rfl,_,hf⟩:=h
 have HF:Hid (∀ W,Below w.heap.size w W→∀ i (hi:i<ts.length),∃ g o,a=some ⟨g,o,none⟩∧yC W g (o+i*3) ts[i]):=fun W hb i hi=>by
  obtain ⟨g,o,e,hx⟩:=hf i hi;exact ⟨g,o,e,uF _ _ _ _ _ hx hb⟩
 have HS:=aB hs;have HM0:Hid (∃ n D,n≤0∧(w.alloc (.map #[] 0)).ownsMap Tryz.prog 9 dV w.heap.size n D∧MapF D ((ts.take 0).foldl aR [])):=⟨0,_,Nat.le_refl _,World.ownsMap_made (H:=Value) w Tryz.prog 9 dV,MapF.new⟩;have HB0:Hid (Below w.heap.size w (w.alloc (.map #[] 0))):=(Below.refl _ _).alloc (Nat.le_refl _) _;clear hf hs
 go_enter Tryz.func86,Tryz.ntmps86
 go_wp2_with fail
 go_loopw [9] (fun vi wr=>∃ k:Nat,k≤ts.length∧vi= .int .i64 k∧Hid (∃ n D,n≤k∧wr.ownsMap Tryz.prog 9 dV w.heap.size n D∧MapF D ((ts.take k).foldl aR []))∧Below w.heap.size w wr) (fun vi _=>ts.length - (intOf vi).toNat)
 case atStart=>exact ⟨0,Nat.zero_le _,rfl,HM0,HB0.out⟩
 case round=>
  obtain ⟨k,hk,rfl,HM,hb⟩:=hrel
  by_cases hlt:k<ts.length
  · have hki:(k:Int)<(ts.length:Int):=by omega
    obtain ⟨g,o,rfl,hfl⟩:=HF.out wr hb k hlt;have hsx:=HS.out _ (List.getElem_mem hlt);obtain ⟨n,D,hn,hown,hD⟩:=HM.out
    have hen:(ts.take (k+1)).foldl aR []=aR ((ts.take k).foldl aR []) ts[k]:=by
     rw [List.take_succ_eq_append_getElem hlt,List.foldl_append];rfl
    have hD2:=hD.put ts[k];rw [←hen] at hD2;obtain ⟨⟨f0,f1,f2⟩,_⟩:=hfl;clear HM hD hen HF HS HM0;generalize ts[k]=x at*;obtain ⟨W,hW⟩:∃ W,W=wr.alloc (.cells #[.string x.pa,.bool x.dr,.string x.da] 45):=⟨_,rfl⟩;have hbW:Below wr.heap.size wr W:=by rw [hW];exact aD _ _
    obtain ⟨w2,hup,ho2,hg2⟩:=World.ownsMap.update (t:=74) (e:=45) (bK hown hbW) iA Tryz.underlying74 (by unfold maxLen;omega) (key:= .string x.pa) (val:=eV x) (lI hsx) rfl;unfold eV at hup;have HX:Hid (∃ n D,n≤k+1∧w2.ownsMap Tryz.prog 9 dV w.heap.size n D∧MapF D ((ts.take (k+1)).foldl aR [])):=⟨n+1,_,by omega,ho2,hD2⟩;have HB2:Hid (Below w.heap.size w w2):=(aA hb hbW).grown hg2 (aA hb hbW).size (fun j e=>by cases e;exact Nat.le_refl _);clear ho2 hg2 hown hsx hD2 hbW hb;subst hW
    go_wp2_with fail
    exact ⟨⟨k+1,by omega,by go_num,HX,HB2.out⟩,by simp [intOf];omega⟩
  · obtain rfl:k=ts.length:=by omega
    have HR:Hid (∃ n D,wr.ownsMap Tryz.prog 9 dV w.heap.size n D∧MapF D (ts.foldl aR [])):=by
     obtain ⟨n,D,_,h1,h2⟩:=HM.out;rw [List.take_length] at h2;exact ⟨n,D,h1,h2⟩
    clear HM HM0
    go_wp2_with fail
    go_ret;exact ⟨rfl,HR.out,hb⟩
theorem sR (w:World) (A B C:Obj):(((w.alloc A).alloc B).alloc C).drew.heap[w.heap.size+1]? =some B∧(((w.alloc A).alloc B).alloc C).drew.heap[w.heap.size+1+1]? =some C∧Below w.heap.size w (((w.alloc A).alloc B).alloc C).drew:=by
 have e1:(w.alloc A).heap.size=w.heap.size+1:=by simp
 have e2:((w.alloc A).alloc B).heap.size=w.heap.size+1+1:=by simp
 refine ⟨?_,?_,((((Below.refl _ w).alloc (Nat.le_refl _) _).alloc (by simp) _).alloc (by simp;omega) _).drew⟩
 · show (((w.alloc A).alloc B).alloc C).heap[w.heap.size+1]? =some B
   rw [Below.heap_alloc _ _ _ (by omega),←e1];exact World.alloc_heap_new (w.alloc A) B
 · show (((w.alloc A).alloc B).alloc C).heap[w.heap.size+1+1]? =some C
   rw [←e2];exact World.alloc_heap_new ((w.alloc A).alloc B) C
theorem SD (W:World):(Instr.makeSlice 25 (.int .i64 1) (.int .i64 1)).run Tryz.prog W= .ok (.slice (some ⟨W.heap.size,0,none⟩) 1 1) (W.alloc (.cells #[.string ⟨#[]⟩,.int .i64 0,.int .i64 0,.int .i64 0,.slice none 0 0,.slice none 0 0] 60)):=by kernel_rfl
theorem TH (W:World):(Instr.makeSlice 28 (.int .i64 1) (.int .i64 1)).run Tryz.prog W= .ok (.slice (some ⟨W.heap.size,0,none⟩) 1 1) (W.alloc (.cells #[.slice none 0 0,.string ⟨#[]⟩,.int .i64 0,.int .i64 0,.int .i64 0,.slice none 0 0,.slice none 0 0,.slice none 0 0,.int .i64 0] 56)):=by kernel_rfl
set_option maxHeartbeats 3200000 in
theorem kA (w:World):Calls Tryz.prog 33 #[] w fun e w'=>∃ g1 g2,e= .returned (.agg #[.slice none 0 0,.slice none 0 0,.slice none 0 0,.slice none 0 0,.slice (some ⟨g1,0,none⟩) 1 1,.slice (some ⟨g2,0,none⟩) 1 1,.bool false])∧
 w'.heap[g1]? =some (.cells #[.string ⟨#[]⟩,.int .i64 0,.int .i64 0,.int .i64 0,.slice none 0 0,.slice none 0 0] 60)∧w'.heap[g2]? =some (.cells #[.slice none 0 0,.string ⟨#[]⟩,.int .i64 0,.int .i64 0,.int .i64 0,.slice none 0 0,.slice none 0 0,.slice none 0 0,.int .i64 0] 56)∧w.heap.size≤g1∧w.heap.size≤g2∧Below w.heap.size w w':=by
 have m1:=SD;have m2:=TH
 go_enter Tryz.func33,Tryz.ntmps33
 go_wp2_with fail
 go_region
 · go_wp2
   refine bodyPost_ret (by simp [results,Tryz.results33,go_sem];try rfl) rfl ?_;obtain ⟨h1,h2,h3⟩:=sR w _ _ _;exact ⟨_,_,rfl,h1,h2,by omega,by omega,h3⟩
 · go_wp2
   refine bodyPost_ret (by simp [results,Tryz.results33,go_sem];try rfl) rfl ?_;obtain ⟨h1,h2,h3⟩:=sR w _ _ _;exact ⟨_,_,rfl,h2,h1,by omega,by omega,h3⟩
structure Dv where
 d:Dr
 u:Value
 v1:Value
 v2:Value
 v3:Value
def lF (x:Dv):List Value:=[x.u,.string x.d.pk.nm,.int .i64 x.d.pk.a,.int .i64 x.d.pk.b,.int .i64 x.d.pk.c,x.v1,x.v2,x.v3,.int .i64 x.d.nd]
theorem yH (x:Dv):(lF x).length=9:=rfl
theorem PL:(Tryz.prog.info? 56).map (fun i=>(i.zero,i.size,i.bytes))=some (some (.agg #[.slice none 0 0,.string ⟨#[]⟩,.int .i64 0,.int .i64 0,.int .i64 0,.slice none 0 0,.slice none 0 0,.slice none 0 0,.int .i64 0]),9,144):=by kernel_rfl
def OwnV (w:World) (B:Nat) (x:Dv):Prop:=OwnPa w B x.u x.d.pa∧OwnP w B x.d.pk x.v1 x.v2 x.v3
theorem OwnV.below {w w':World} {B:Nat} {x:Dv} (h:OwnV w B x) (hb:Below w.heap.size w w'):OwnV w' B x:=⟨h.1.below hb,h.2.below hb⟩
theorem OwnD.keptV {w w':World} {B B':Nat} {v v':Value} {ps:List (Dp×Value)} {n':Nat} {ys:List Value} (h:OwnD w B v ps) (hr:w.ownsRow B' 56 9 v' n' ys) (hg:w.grownBy w' v'.ownBlock):OwnD w' B v ps:=⟨World.ownsRow.kept h.1 hg (dX h.1 hr (by decide)),fun p hp=>World.ownsRow.kept (h.2 p hp) hg (dX (h.2 p hp) hr (by decide))⟩
theorem OwnV.kept {w w':World} {B B':Nat} {x:Dv} {v':Value} {n':Nat} {ys:List Value} (h:OwnV w B x) (hr:w.ownsRow B' 56 9 v' n' ys) (hg:w.grownBy w' v'.ownBlock):OwnV w' B x:=by
 obtain ⟨h1,q1,q2,q3,⟨d1,m1⟩,⟨d2,m2⟩,d3,m3⟩:=h;exact ⟨World.ownsRow.kept h1 hg (dX h1 hr (by decide)),q1,q2,q3,⟨d1.keptV hr hg,m1⟩,⟨d2.keptV hr hg,m2⟩,d3.keptV hr hg,m3⟩
theorem OwnV.one {w:World} {B:Nat} {x:Dv} (h:OwnV w B x):∀ v ∈ lF x,v.oneCell'=true:=fun v hv=>by
 obtain ⟨ua,uc,e0⟩:=h.1.at.sl;have hp:=h.2.at;obtain ⟨a1,c1,e1⟩:=hp.1.sl;obtain ⟨a2,c2,e2⟩:=hp.2.1.sl;obtain ⟨a3,c3,e3⟩:=hp.2.2.sl;simp only [lF,List.mem_cons,List.not_mem_nil,or_false] at hv
 rcases hv with rfl|rfl|rfl|rfl|rfl|rfl|rfl|rfl|rfl
 · rw [e0];rfl
 · rfl
 · rfl
 · rfl
 · rfl
 · rw [e1];rfl
 · rw [e2];rfl
 · rw [e3];rfl
 · rfl
def RowV (w:World) (B:Nat) (v:Value) (xs:List Dv):Prop:=w.ownsRow B 56 9 v xs.length (xs.flatMap lF)∧∀ x ∈ xs,OwnV w B x
theorem RowV.below {w w':World} {B:Nat} {v:Value} {xs:List Dv} (h:RowV w B v xs) (hb:Below w.heap.size w w'):RowV w' B v xs:=⟨cH h.1 hb,fun x hx=>(h.2 x hx).below hb⟩
theorem RowV.form {w:World} {B:Nat} {v:Value} {xs:List Dv} (h:RowV w B v xs):∃ a c,v= .slice a xs.length c:=by
 rcases h.1.2 with ⟨rfl,hn⟩|⟨g,cap,cur,rfl,_⟩
 · exact ⟨none,0,by rw [hn]⟩
 · exact ⟨_,_,rfl⟩
theorem EB (xs:List Dv) (i r:Nat) (hi:i<xs.length) (hr:r<9):(xs.flatMap lF)[i*9+r]? =(lF xs[i])[r]? :=by
 haveI:Inhabited Dv:=⟨⟨⟨[],gQ,0⟩,undef,undef,undef,undef⟩⟩
 have h:=fQ lF 9 (fun _=>rfl) xs i r hi hr
 rwa [getElem!_pos xs i hi] at h
theorem RowV.at {w:World} {B:Nat} {v:Value} {xs:List Dv} (h:RowV w B v xs):DirsAt w v (xs.map Dv.d):=by
 rcases h.1.2 with ⟨rfl,hn⟩|⟨g,cap,cur,rfl,hB,hg,hc,_⟩
 · obtain rfl:xs=[]:=List.length_eq_zero_iff.1 hn
   exact ⟨none,0,rfl,Nat.le_refl _,Or.inl rfl⟩
 · refine ⟨_,cap,by rw [List.length_map],by rw [List.length_map];exact hc,Or.inr ⟨g,0,rfl,fun i hi=> ?_⟩⟩
   rw [List.length_map] at hi;rw [List.getElem_map];have hx:=h.2 _ (List.getElem_mem hi)
   have hcl:∀ r u,r<9→(lF xs[i])[r]? =some u→w.cell? ⟨g,0+i*9+r,none⟩=some u:=fun r u hr e=>by
    rw [Nat.zero_add,World.ownsRow.cellAt h.1 (i*9+r) (by omega),EB xs i r hi hr];exact e
   exact ⟨xs[i].u,xs[i].v1,xs[i].v2,xs[i].v3,⟨hcl 0 _ (by decide) rfl,hcl 1 _ (by decide) rfl,hcl 2 _ (by decide) rfl,hcl 3 _ (by decide) rfl,hcl 4 _ (by decide) rfl,hcl 5 _ (by decide) rfl,hcl 6 _ (by decide) rfl,hcl 7 _ (by decide) rfl,hcl 8 _ (by decide) rfl⟩,⟨hx.1.at,hx.2.at⟩,(Array.getElem?_eq_some_iff.1 hg).1⟩
theorem SE {B:Nat} {wx:World} {v:Value} {xs:List Dv} {x:Dv} {N:Nat} {ops:Array Oper} {rest:List Oper} {o:Oper} {f:Act} {Q:Exit→Act→World→Prop}
 (hgd:o.guard=none) (s t:Operand) (ho:o.op= .call { callee:= .builtin .append,args:= #[s,t],argTypes:= #[28,28] }) (hs:f.eval s=v)
 (hown:RowV wx B v xs) (hB:B≤wx.heap.size) (hx:f.eval t= .slice (some ⟨N,0,none⟩) 1 1) (hov:OwnV wx B x) (hc:∀ j u,(lF x)[j]? =some u→wx.cell? ((⟨N,0,none⟩:Addr).add j)=some u) (hb:xs.length≤1000000)
 (h:∀ v1 w1,RowV w1 B v1 (xs++[x])→wx.grownBy w1 v.ownBlock→wpList Tryz.prog ops Q rest (f.put o.dst v1) w1):
 wpList Tryz.prog ops Q (o::rest) f wx:=by
 obtain ⟨i0,hi,hz0,hz1,hz2⟩:=Sc.bO PL;refine wpList_append_own_wide _ hgd s t 28 ho B 56 i0 _ 9 144 Tryz.underlying28 hi hz0 hz1 hz2 rfl (by decide) v xs.length (xs.flatMap lF) hs hown.1 ⟨N,0,none⟩ 1 1 (lF x) hx rfl hc hov.one (by unfold maxLen;omega) (by omega) hB ?_;intro v1 w1 h1 h2 _;refine h v1 w1 ⟨?_,fun y hy=> ?_⟩ h2
 · rw [List.length_append,List.flatMap_append]
   simpa using h1
 · rcases List.mem_append.1 hy with hy|hy
   · exact (hown.2 y hy).kept hown.1 h2
   · obtain rfl:=List.mem_singleton.1 hy
     exact hov.kept hown.1 h2
noncomputable def gPk (t:ByteArray):Pg:=if LX t=0 then LY t else gQ
noncomputable def yI (M:List Fi) (x:Fi):List Dr:=match aU x.pa.data.toList with
 |some p=>[⟨p,gPk (cC M (x.pa++cY)).da,1⟩]
 |none=>[]
noncomputable def bY (M:List Fi) (ts:List Fi):List Dr:=drZ::ts.flatMap (yI M)
theorem MW (M:List Fi) (x:Fi):(yI M x).length≤1:=by
 unfold yI
 split<;>simp
theorem jB (M:List Fi):∀ ts:List Fi,(ts.flatMap (yI M)).length≤ts.length
 |[]=>by simp
 |x::ts=>by
  rw [List.flatMap_cons,List.length_append,List.length_cons]
  have:=jB M ts
  have:=MW M x
  omega
end Go.Proofs.YtlmpiohbmlddiaaGreatDoor
