/- Ip1, Ip2, Im4, Mf1: their declarations that are needed, laid in one text, remarks and blanks left out. -/
import Derived.Test.YtlmpiohbmlddiaaGreatDoorDkShelf
import Derived.Test.YtlmpiohbmlddiaaGreatDoorMd11
namespace Go.Proofs.YtlmpiohbmlddiaaGreatDoor
open Go.RowKit Go.Lib Go.Sort
set_option maxRecDepth 100000
structure TrOk (L:List Dr):Prop where
 len:0<L.length∧L.length≤257
 root:∀ h:0<L.length,L[0].pa=[]
 names:∀ i (hi:i<L.length),i≠0→L[i].pa≠[]∧aI L[i].pa=true∧(aJ L[i].pa).length≤1024∧aS L[i].pk=true
 uniq:∀ i j (hi:i<L.length) (hj:j<L.length),L[i].pa=L[j].pa→i=j
 above:∀ i (hi:i<L.length),i≠0→∃ p,∃ hp:p<L.length,p<i∧L[p].pa=L[i].pa.take (L[i].pa.length - 1)
theorem OK {L:List Dr} (hc:bR L=true):TrOk L:=by
 obtain ⟨⟨h0,h257⟩,hr,hall⟩:=cJ.1 hc;rw [kN h0] at hr;unfold jF at hr;rw [Bool.and_eq_true,Bool.and_eq_true,decide_eq_true_iff] at hr;have hroot:L[0].pa=[]:=List.eq_nil_of_length_eq_zero hr.1.1
 have hfol:∀ i (hi:i<L.length),i≠0→dF L[i].pa=true∧aS L[i].pk=true∧bD (L.take i) L[i].pa<0∧0≤bD (L.take i) (L[i].pa.take (L[i].pa.length - 1)):=fun i hi hne=>by
  have q:=hall i hi hne;rw [oR hi] at q;unfold oP at q;simp only [Bool.and_eq_true,decide_eq_true_eq] at q;exact ⟨q.1.1.1.1.1,q.1.1.2,q.1.2,q.2⟩
 have hlt:∀ i j (hi:i<L.length) (hj:j<L.length),i<j→L[i].pa≠L[j].pa:=fun i j hi hj hij e=>by
  have h1:=(hfol j hj (by omega)).2.2.1
  rcases cU (L.take j) L[j].pa with ⟨_,h2⟩|⟨k,_,h2,_⟩
  · exact h2 i (by rw [List.length_take];omega) (by rw [List.getElem_take];exact e)
  · omega
 refine ⟨⟨h0,h257⟩,fun _=>hroot,fun i hi hne=> ?_,fun i j hi hj e=> ?_,fun i hi hne=> ?_⟩
 · obtain ⟨h1,h2,_⟩:=hfol i hi hne
   unfold dF at h1;simp only [Bool.and_eq_true,decide_eq_true_eq] at h1;exact ⟨List.length_pos_iff.1 h1.1.1,h1.1.2,h1.2,h2⟩
 · rcases Nat.lt_trichotomy i j with h|h|h
   · exact absurd e (hlt i j hi hj h)
   · exact h
   · exact absurd e.symm (hlt j i hj hi h)
 · have h1:=(hfol i hi hne).2.2.2
   rcases cU (L.take i) (L[i].pa.take (L[i].pa.length - 1)) with ⟨h2,_⟩|⟨k,hk,_,h2,_⟩
   · omega
   · rw [List.length_take] at hk
     rw [List.getElem_take] at h2;exact ⟨k,by omega,by omega,h2⟩
def fO:ByteArray:=⟨#[47,109,111,100,117,108,101,115]⟩
def cY:ByteArray:=⟨#[47,112,97,99,107,97,103,101]⟩
def gD:ByteArray:=⟨#[47,109,97,110,105,102,101,115,116]⟩
def eD:ByteArray:=⟨#[47,108,111,99,107]⟩
def mW:ByteArray:=⟨#[47,112,114,117,110,101,100]⟩
inductive Ca where
 |man|lok|pru
 |mod (p:List ByteArray)
 |dir (p:List ByteArray)
 |pkg (d:Dr)
noncomputable def caF (mt lt:ByteArray):Ca→Fi
 | .man=>⟨gD,false,mt⟩
 | .lok=>⟨eD,false,lt⟩
 | .pru=>⟨mW,false,⟨#[]⟩⟩
 | .mod p=>⟨aL p++fO,true,⟨#[]⟩⟩
 | .dir p=>⟨aL p,true,⟨#[]⟩⟩
 | .pkg d=>⟨aL d.pa++cY,false,bF d.pk⟩
def tg (s:ByteArray):Nat:=if s.data.toList.count 47 % 2=0 then 0 else ((s.data.toList.getLast?).getD 0).toNat
def tgC:Ca→Nat
 | .man=>116| .lok=>107| .pru=>100| .mod _=>115| .dir _=>0| .pkg _=>101
def FO (L:List Dr):Ca→Prop
 | .mod p=>aI p=true
 | .dir p=>aI p=true
 | .pkg d=>aI d.pa=true∧d ∈ L
 |_=>True
theorem dO (p:List ByteArray):(aL p).data.toList=aJ p:=by unfold aL;simp
theorem AL {p:List ByteArray} (hp:aI p=true) (t:ByteArray) (h1:t.data.toList.count 47=1) {c:UInt8} (h2:t.data.toList.getLast? =some c):tg (aL p++t)=c.toNat:=by
 unfold tg;have e:(aL p++t).data.toList=aJ p++t.data.toList:=by rw [bQ,dO]
 have hne:t.data.toList≠[]:=fun q=>by rw [q] at h2;cases h2
 rw [e,List.count_append,eB hp,h1,if_neg (by omega),List.getLast?_append,h2];rfl
theorem KI {L:List Dr} {mt lt:ByteArray} {a:Ca} (h:FO L a):tg (caF mt lt a).pa=tgC a:=by
 cases a with
 |man=>show tg gD=116;decide
 |lok=>show tg eD=107;decide
 |pru=>show tg mW=100;decide
 |mod p=>exact AL h fO (by decide) (c:=115) (by decide)
 |dir p=>
  have h0:aI p=true:=h;unfold tg caF
  simp only
  rw [dO,eB h0,if_pos (by omega)];rfl
 |pkg d=>exact AL h.1 cY (by decide) (c:=101) (by decide)
theorem gW {p q:List ByteArray} (hp:aI p=true) (hq:aI q=true) (h:aL p=aL q):p=q:=by
 have hl:p.length=q.length:=by
  have:=congrArg (fun s:ByteArray=>s.data.toList.count 47) h
  simp only [dO,eB hp,eB hq] at this;omega
 rcases Classical.em (p=[]) with rfl|h0
 · exact (List.eq_nil_of_length_eq_zero (by simpa using hl.symm)).symm
 · have hq0:q≠[]:=fun e=>h0 (List.eq_nil_of_length_eq_zero (by rw [hl,e];rfl))
   have e1:aF p=aL p:=by unfold aF;rw [if_neg h0,if_pos hp];rfl
   have e2:aF q=aL q:=by unfold aF;rw [if_neg hq0,if_pos hq];rfl
   have h1:=jQ (Or.inr hp);have h2:=jQ (Or.inr hq);rw [e1,h,←e2,h2] at h1;exact (Option.some.inj h1).symm
theorem jT {s t u:ByteArray} (h:s++u=t++u):s=t:=by
 have:=congrArg (fun x:ByteArray=>x.data.toList) h
 simp only [bQ] at this;refine aY ?_;rw [ByteArray.toList_eq,ByteArray.toList_eq];exact List.append_cancel_right this
theorem KJ {L:List Dr} (hu:∀ d ∈ L,∀ e ∈ L,d.pa=e.pa→d=e) {mt lt:ByteArray} {a b:Ca} (ha:FO L a) (hb:FO L b) (h:(caF mt lt a).pa=(caF mt lt b).pa):a=b:=by
 have ht:tgC a=tgC b:=by rw [←KI (mt:=mt) (lt:=lt) ha,←KI (mt:=mt) (lt:=lt) hb,h]
 cases a<;>cases b<;>simp only [tgC] at ht<;>first|rfl|(exfalso;omega)|skip
 · rw [gW ha hb (jT h)]
 · rw [gW ha hb h]
 · rw [hu _ ha.2 _ hb.2 (gW ha.1 hb.1 (jT h))]
theorem TrOk.mem_uniq {L:List Dr} (h:TrOk L):∀ d ∈ L,∀ e ∈ L,d.pa=e.pa→d=e:=fun d hd e he q=>by
 obtain ⟨i,hi,rfl⟩:=List.getElem_of_mem hd;obtain ⟨j,hj,rfl⟩:=List.getElem_of_mem he;obtain rfl:=h.uniq i j hi hj q;rfl
def upP (p:List ByteArray):List ByteArray:=p.take (p.length - 1)
def gE (pr:Bool):List Ca:=[.man,.lok]++if pr=true then [.pru] else []
def caP (pr:Bool) (L:List Dr):List Ca:=gE pr++(L.drop 1).flatMap fun d=>[.mod (upP d.pa),.dir d.pa,.pkg d]
noncomputable def wN (L:List Dr) (p:List ByteArray):Bool:=L.any fun d=>stB d.pa p
noncomputable def caD (pr:Bool) (L:List Dr):List Ca:=gE pr++(if 1<L.length then [.mod []] else [])++(L.drop 1).flatMap fun d=>[.dir d.pa,.pkg d]++if wN L d.pa=true then [.mod d.pa] else []
theorem cD {L:List Dr} {d:Dr}:d ∈ L.drop 1↔∃ i,∃ hi:i<L.length,i≠0∧L[i]=d:=by
 rw [List.mem_iff_getElem]
 constructor
 · rintro ⟨i,hi,rfl⟩
   rw [List.length_drop] at hi;exact ⟨1+i,by omega,by omega,by rw [List.getElem_drop]⟩
 · rintro ⟨i,hi,hne,rfl⟩
   refine ⟨i - 1,by rw [List.length_drop];omega,?_⟩;rw [List.getElem_drop]
   congr 1
   omega
theorem wO {p:List ByteArray} (h:aI p=true):aI (upP p)=true:=by
 unfold aI at*;rw [List.all_eq_true] at*;exact fun x hx=>h x (List.mem_of_mem_take hx)
theorem DF {L:List Dr} {pr:Bool} {a:Ca} (h:a ∈ gE pr):FO L a:=by
 unfold gE at h;cases pr<;>simp at h<;>rcases h with rfl|h<;>first|trivial|(rcases h with rfl|rfl<;>trivial)|(subst h;trivial)
theorem tP {L:List Dr} (h:TrOk L) {pr:Bool} {a:Ca} (ha:a ∈ caP pr L):FO L a:=by
 unfold caP at ha
 rcases List.mem_append.1 ha with ha|ha
 · exact DF ha
 · obtain ⟨d,hd,ha⟩:=List.mem_flatMap.1 ha
   obtain ⟨i,hi,hne,rfl⟩:=cD.1 hd;have hn:=(h.names i hi hne).2.1;simp only [List.mem_cons,List.not_mem_nil,or_false] at ha
   rcases ha with rfl|rfl|rfl
   · exact wO hn
   · exact hn
   · exact ⟨hn,List.getElem_mem hi⟩
theorem KK {L:List Dr} (h:TrOk L) {pr:Bool} {a:Ca} (ha:a ∈ caD pr L):FO L a:=by
 unfold caD at ha
 rcases List.mem_append.1 ha with ha|ha
 · rcases List.mem_append.1 ha with ha|ha
   · exact DF ha
   · split at ha
     · rw [List.mem_singleton.1 ha]
       exact rfl
     · cases ha
 · obtain ⟨d,hd,ha⟩:=List.mem_flatMap.1 ha
   obtain ⟨i,hi,hne,rfl⟩:=cD.1 hd;have hn:=(h.names i hi hne).2.1
   rcases List.mem_append.1 ha with ha|ha
   · simp only [List.mem_cons,List.not_mem_nil,or_false] at ha
     rcases ha with rfl|rfl
     · exact hn
     · exact ⟨hn,List.getElem_mem hi⟩
   · split at ha
     · rw [List.mem_singleton.1 ha]
       exact hn
     · cases ha
theorem kT {L:List Dr} (h:TrOk L) {pr:Bool} {a:Ca}:a ∈ caP pr L↔a ∈ caD pr L:=by
 unfold caP caD;simp only [List.mem_append,List.mem_flatMap]
 constructor
 · rintro (ha|⟨d,hd,ha⟩)
   · exact Or.inl (Or.inl ha)
   · obtain ⟨i,hi,hne,rfl⟩:=cD.1 hd
     simp only [List.mem_cons,List.not_mem_nil,or_false] at ha
     rcases ha with rfl|rfl|rfl
     · obtain ⟨q,hq,hqi,e⟩:=h.above i hi hne
       have e2:upP L[i].pa=L[q].pa:=e.symm;rw [e2]
       by_cases h0:q=0
       · subst h0
         rw [h.root (by omega)];exact Or.inl (Or.inr (by rw [if_pos (by omega)];simp))
       · refine Or.inr ⟨L[q],cD.2 ⟨q,hq,h0,rfl⟩,Or.inr ?_⟩
         have hin:wN L L[q].pa=true:=by
          unfold wN;rw [List.any_eq_true];refine ⟨L[i],List.getElem_mem hi,DE.2 ⟨List.length_pos_iff.2 (h.names i hi hne).1,e.symm⟩⟩
         rw [if_pos hin]
         simp
     · exact Or.inr ⟨L[i],hd,Or.inl (by simp)⟩
     · exact Or.inr ⟨L[i],hd,Or.inl (by simp)⟩
 · rintro ((ha|ha)|⟨d,hd,ha|ha⟩)
   · exact Or.inl ha
   · split at ha
     · rename_i h1
       rw [List.mem_singleton.1 ha];obtain ⟨q,hq,hq1,e⟩:=h.above 1 h1 (by decide);obtain rfl:q=0:=by omega
       refine Or.inr ⟨L[1],cD.2 ⟨1,h1,by decide,rfl⟩,?_⟩
       have:upP L[1].pa=[]:=by
        have e2:upP L[1].pa=L[0].pa:=e.symm;rw [e2,h.root (by omega)]
       simp [this]
     · cases ha
   · refine Or.inr ⟨d,hd,?_⟩
     simp only [List.mem_cons,List.not_mem_nil,or_false] at ha
     rcases ha with rfl|rfl<;>simp
   · obtain ⟨i,hi,hne,rfl⟩:=cD.1 hd
     split at ha
     · rename_i hin
       rw [List.mem_singleton.1 ha];unfold wN at hin;rw [List.any_eq_true] at hin;obtain ⟨e,he,hs⟩:=hin;obtain ⟨j,hj,rfl⟩:=List.getElem_of_mem he;obtain ⟨hp,e2⟩:=DE.1 hs
       have hj0:j≠0:=fun q=>by
        subst q;rw [h.root hj] at hp;cases hp
       refine Or.inr ⟨L[j],cD.2 ⟨j,hj,hj0,rfl⟩,?_⟩;have e3:upP L[j].pa=L[i].pa:=e2;simp [e3]
     · cases ha
theorem KL (C:List Fi) (hc:∀ x ∈ C,∀ y ∈ C,x.pa=y.pa→x=y):∀ k,k≤C.length→∀ y,y ∈ (C.take k).foldl aR []↔y ∈ C.take k:=by
 intro k
 induction k with
 |zero=>intro _ y;simp
 |succ k ih=>
  intro hk y;have hlt:k<C.length:=by omega
  rw [List.take_succ_eq_append_getElem hlt,List.foldl_append];simp only [List.foldl_cons,List.foldl_nil];rw [kC,List.mem_append,List.mem_singleton,ih (by omega)]
  constructor
  · rintro (h|⟨h,_⟩)
    · exact Or.inr h
    · exact Or.inl h
  · rintro (h|h)
    · by_cases e:y.pa=C[k].pa
      · exact Or.inl (hc y (List.mem_of_mem_take h) _ (List.getElem_mem hlt) e)
      · exact Or.inr ⟨h,e⟩
    · exact Or.inl h
theorem KN (C:List Fi):∀ k,k≤C.length→((C.take k).foldl aR []).length≤k:=by
 intro k
 induction k with
 |zero=>intro _;simp
 |succ k ih=>
  intro hk;have hlt:k<C.length:=by omega
  rw [List.take_succ_eq_append_getElem hlt,List.foldl_append];simp only [List.foldl_cons,List.foldl_nil]
  have:=II ((C.take k).foldl aR []) C[k]
  have:=ih (by omega)
  omega
def RisF (ts:List Fi):Prop:=ts.Pairwise fun x y=>dL x.pa y.pa<0
theorem RisF.of {ts:List Fi} (hs:jN ts) (hd:ts.Pairwise fun x y=>x.pa≠y.pa):RisF ts:=by
 refine (hs.and hd).imp fun {x y} h=> ?_
 rcases vW.tri x.pa y.pa with q|q|q
 · exact q
 · exact absurd q h.2
 · exact absurd q h.1
theorem RisF.nodup {ts:List Fi} (h:RisF ts):ts.Nodup:=by
 refine h.imp fun {x y} q e=> ?_
 subst e;rw [vW.irr] at q;omega
theorem RisF.uniq {ts us:List Fi} (h1:RisF ts) (h2:RisF us) (h:∀ x,x ∈ ts↔x ∈ us):ts=us:=by
 refine List.Perm.eq_of_pairwise (le:=fun x y:Fi=>dL x.pa y.pa<0) (fun a b _ _ q1 q2=> ?_) h1 h2 ((List.perm_ext_iff_of_nodup h1.nodup h2.nodup).2 h)
 have:=(vW.anti _ _).1 q1
 omega
def jU:List Fi→Fi→Nat
 |[],_=>0
 |y::ts,x=>if Op.bytesLess y.pa.toList x.pa.toList=true then jU ts x+1 else 0
theorem pD:∀ {ts:List Fi} {x:Fi} {k:Nat} (h:k<ts.length),k<jU ts x→Op.bytesLess ts[k].pa.toList x.pa.toList=true
 |[],_,_,h,_=>by simp at h
 |y::ts,x,k,h,hk=>by
  unfold jU at hk
  split at hk
  · rename_i hy
    cases k with
    |zero=>exact hy
    |succ k=>exact pD (ts:=ts) (k:=k) (by simpa using h) (by omega)
  · omega
theorem DG:∀ {ts:List Fi} {x:Fi} {k:Nat} (h:k<ts.length),k=jU ts x→Op.bytesLess ts[k].pa.toList x.pa.toList=false
 |[],_,_,h,_=>by simp at h
 |y::ts,x,k,h,hk=>by
  unfold jU at hk
  split at hk
  · cases k with
    |zero=>omega
    |succ k=>exact DG (ts:=ts) (k:=k) (by simpa using h) (by omega)
  · rename_i hy
    subst hk;exact Bool.not_eq_true _ ▸ hy
def qY (ts:List Fi) (x:Fi):List Fi:=ts.take (jU ts x)++x::ts.drop (jU ts x)
theorem rY (ts:List Fi) (x:Fi):(qY ts x).Perm (x::ts):=by
 unfold qY;refine List.perm_middle.trans ?_;rw [List.take_append_drop]
theorem KP (ts:List Fi) (x:Fi):(qY ts x).length=ts.length+1:=by rw [(rY ts x).length_eq,List.length_cons]
theorem KQ {ts:List Fi} {x y:Fi}:y ∈ qY ts x↔y=x∨y ∈ ts:=by rw [(rY ts x).mem_iff,List.mem_cons]
theorem KR (s t:ByteArray):Op.bytesLess s.toList t.toList=true↔dL s t<0:=by
 rw [QA,ByteArray.toList_eq,ByteArray.toList_eq,OB]
 constructor
 · intro h
   rw [if_pos h];decide
 · intro h
   cases hb:bytesBefore s.data.toList t.data.toList with
   |true=>rfl
   |false=>
    rw [hb] at h;simp only [Bool.false_eq_true,if_false] at h
    split at h<;>omega
theorem FP {ts:List Fi} {x:Fi} (h:RisF ts) (hx:∀ y ∈ ts,y.pa≠x.pa):RisF (qY ts x):=by
 have h1:∀ y ∈ ts.take (jU ts x),dL y.pa x.pa<0:=fun y hy=>by
  obtain ⟨k,hk,rfl⟩:=List.getElem_of_mem hy;rw [List.length_take] at hk;rw [List.getElem_take];exact (KR _ _).1 (pD (by omega) (by omega))
 have h2:∀ y ∈ ts.drop (jU ts x),dL x.pa y.pa<0:=fun y hy=>by
  obtain ⟨k,hk,rfl⟩:=List.getElem_of_mem hy;rw [List.length_drop] at hk;have hp:jU ts x<ts.length:=by omega
  have hge:¬ dL ts[jU ts x].pa x.pa<0:=fun q=>by
   have:=(KR _ _).2 q
   rw [DG hp rfl] at this;cases this
  have h0:dL x.pa ts[jU ts x].pa<0:=by
   rcases vW.tri ts[jU ts x].pa x.pa with q|q|q
   · exact absurd q hge
   · exact absurd q (hx _ (List.getElem_mem hp))
   · exact q
  rw [List.getElem_drop]
  rcases Nat.eq_zero_or_pos k with rfl|hk0
  · exact h0
  · have hlt:dL ts[jU ts x].pa ts[jU ts x+k].pa<0:=List.pairwise_iff_getElem.1 h _ _ hp (by omega) (by omega)
    exact vW.trans _ _ _ h0 hlt
 unfold qY RisF;rw [List.pairwise_append,List.pairwise_cons];refine ⟨List.Pairwise.take h,⟨h2,List.Pairwise.drop h⟩,fun y hy z hz=> ?_⟩
 rcases List.mem_cons.1 hz with rfl|hz
 · exact h1 y hy
 · exact vW.trans _ _ _ (h1 y hy) (h2 z hz)
theorem SZ (C:List Fi) (hd:C.Pairwise fun x y=>x.pa≠y.pa):∀ k,k≤C.length→RisF ((C.take k).foldl qY [])∧(∀ y,y ∈ (C.take k).foldl qY []↔y ∈ C.take k)∧((C.take k).foldl qY []).length=k:=by
 intro k
 induction k with
 |zero=>intro _;exact ⟨List.Pairwise.nil,fun y=>by simp,rfl⟩
 |succ k ih=>
  intro hk;have hlt:k<C.length:=by omega
  obtain ⟨i1,i2,i3⟩:=ih (by omega);rw [List.take_succ_eq_append_getElem hlt,List.foldl_append];simp only [List.foldl_cons,List.foldl_nil];refine ⟨FP i1 fun y hy=> ?_,fun y=> ?_,by rw [KP,i3]⟩
  · obtain ⟨j,hj,rfl⟩:=List.getElem_of_mem ((i2 y).1 hy)
    rw [List.length_take] at hj;rw [List.getElem_take];exact List.pairwise_iff_getElem.1 hd j k (by omega) hlt (by omega)
  · rw [KQ,List.mem_append,List.mem_singleton,i2]
    exact ⟨fun h=>h.symm,fun h=>h.symm⟩
noncomputable def pE (L:List Dr) (d:Dr):List Ca:=[.dir d.pa,.pkg d]++if wN L d.pa=true then [.mod d.pa] else []
def KS:Ca→List ByteArray
 | .mod p=>p
 | .dir p=>p
 | .pkg d=>d.pa
 |_=>[]
theorem tQ {L:List Dr} {d:Dr} {a:Ca} (h:a ∈ pE L d):KS a=d.pa∧a≠ .man∧a≠ .lok∧a≠ .pru:=by
 unfold pE at h
 rcases List.mem_append.1 h with h|h
 · simp only [List.mem_cons,List.not_mem_nil,or_false] at h
   rcases h with rfl|rfl<;>exact ⟨rfl,by simp,by simp,by simp⟩
 · split at h
   · rw [List.mem_singleton.1 h]
     exact ⟨rfl,by simp,by simp,by simp⟩
   · cases h
theorem AM (L:List Dr) (d:Dr):(pE L d).Nodup:=by
 unfold pE
 split<;>simp
theorem pF (L:List Dr):∀ {M:List Dr},(M.Pairwise fun d e=>d.pa≠e.pa)→(M.flatMap (pE L)).Nodup
 |[],_=>by simp
 |d::M,h=>by
  obtain ⟨h1,h2⟩:=List.pairwise_cons.1 h;rw [List.flatMap_cons,List.nodup_append];refine ⟨AM L d,pF L h2,fun a ha b hb e=> ?_⟩;subst e;obtain ⟨d2,hd2,hb2⟩:=List.mem_flatMap.1 hb;exact h1 d2 hd2 ((tQ ha).1.symm.trans (tQ hb2).1)
theorem AN (pr:Bool) (L:List Dr):caD pr L=gE pr++(if 1<L.length then [.mod []] else [])++(L.drop 1).flatMap (pE L):=rfl
theorem kU {pr:Bool} {a:Ca} (h:a ∈ gE pr):a= .man∨a= .lok∨a= .pru:=by
 unfold gE at h;cases pr<;>simp at h
 · rcases h with h|h
   · exact Or.inl h
   · exact Or.inr (Or.inl h)
 · exact h
theorem FQ {L:List Dr} (h:TrOk L) (pr:Bool):(caD pr L).Nodup:=by
 have hdr:(L.drop 1).Pairwise fun d e=>d.pa≠e.pa:=by
  rw [List.pairwise_iff_getElem];intro i j hi hj hij e;rw [List.length_drop] at hi hj;rw [List.getElem_drop,List.getElem_drop] at e
  have:=h.uniq _ _ (by omega) (by omega) e
  omega
 rw [AN,List.nodup_append,List.nodup_append];refine ⟨⟨?_,?_,?_⟩,pF L hdr,?_⟩
 · unfold gE
   cases pr<;>simp
 · split<;>simp
 · intro a ha b hb e
   subst e
   split at hb
   · rw [List.mem_singleton.1 hb] at ha
     rcases kU ha with q|q|q<;>cases q
   · cases hb
 · intro a ha b hb e
   subst e;obtain ⟨d,hd,hb⟩:=List.mem_flatMap.1 hb;obtain ⟨q1,q2,q3,q4⟩:=tQ hb
   rcases List.mem_append.1 ha with ha|ha
   · rcases kU ha with q|q|q
     · exact q2 q
     · exact q3 q
     · exact q4 q
   · split at ha
     · rw [List.mem_singleton.1 ha] at q1
       obtain ⟨i,hi,hne,rfl⟩:=cD.1 hd;exact (h.names i hi hne).1 q1.symm
     · cases ha
theorem FR {L:List Dr} (h:TrOk L) (pr:Bool) (mt lt:ByteArray):((caD pr L).map (caF mt lt)).Pairwise fun x y=>x.pa≠y.pa:=by
 rw [List.pairwise_map,List.pairwise_iff_getElem];intro i j hi hj hij e;have q:=KJ h.mem_uniq (KK h (List.getElem_mem hi)) (KK h (List.getElem_mem hj)) e;exact List.pairwise_iff_getElem.1 (FQ h pr) i j hi hj hij q
theorem KT {L:List Dr} (h:TrOk L) (pr:Bool) (mt lt:ByteArray):∀ x ∈ (caP pr L).map (caF mt lt),∀ y ∈ (caP pr L).map (caF mt lt),x.pa=y.pa→x=y:=by
 intro x hx y hy e;obtain ⟨a,ha,rfl⟩:=List.mem_map.1 hx;obtain ⟨b,hb,rfl⟩:=List.mem_map.1 hy;rw [KJ h.mem_uniq (tP h ha) (tP h hb) e]
noncomputable def fH (mt lt:ByteArray) (pr:Bool) (L:List Dr):List Fi:=((caD pr L).map (caF mt lt)).foldl qY []
theorem eE {L:List Dr} (h:TrOk L) (pr:Bool) (mt lt:ByteArray):RisF (fH mt lt pr L)∧(∀ y,y ∈ fH mt lt pr L↔∃ a ∈ caD pr L,caF mt lt a=y)∧(fH mt lt pr L).length=(caD pr L).length:=by
 obtain ⟨h1,h2,h3⟩:=SZ _ (FR h pr mt lt) _ (Nat.le_refl _);rw [List.take_length] at h1 h2 h3;exact ⟨h1,fun y=>by unfold fH;rw [h2,List.mem_map],by unfold fH;rw [h3,List.length_map]⟩
theorem AO {L:List Dr} (h:TrOk L) (pr:Bool) (mt lt:ByteArray) {ts:List Fi} (hp:ts.Perm (((caP pr L).map (caF mt lt)).foldl aR [])) (hs:jN ts) (hd:ts.Pairwise fun x y=>x.pa≠y.pa):ts=fH mt lt pr L:=by
 obtain ⟨h1,h2,_⟩:=eE h pr mt lt;refine (RisF.of hs hd).uniq h1 fun x=> ?_
 have h3:=KL _ (KT h pr mt lt) _ (Nat.le_refl _) x;rw [List.take_length] at h3;rw [hp.mem_iff,h3,h2,List.mem_map]
 constructor
 · rintro ⟨a,ha,e⟩
   exact ⟨a,(kT h).1 ha,e⟩
 · rintro ⟨a,ha,e⟩
   exact ⟨a,(kT h).2 ha,e⟩
end Go.Proofs.YtlmpiohbmlddiaaGreatDoor
namespace Go.Proofs.YtlmpiohbmlddiaaGreatDoor
open Go.RowKit Go.Maps Go.WideMaps
set_option maxRecDepth 100000
theorem DH (a b:ByteArray) (i:Nat) (hi:i<b.size):(a++b).data[a.size+i]! =b.data[i]! :=by
 have h1:(a++b).data=a.data++b.data:=by
  refine Array.toList_inj.1 ?_;rw [bQ,Array.toList_append]
 rw [h1];have hz:a.data.size=a.size:=rfl;have h8:b.data.size=b.size:=rfl;rw [getElem!_pos _ _ (by rw [Array.size_append];omega),getElem!_pos _ _ (by omega),Array.getElem_append_right (by omega)]
 congr 1
 omega
theorem FS {a s:ByteArray} (hs:Sc.aG s.data.toList=true):Lib.lastIndexByte (a++cW++s) 47=(a.size+8:Nat):=by
 have h9:cW.size=9:=rfl;have hz:(a++cW++s).size=a.size+9+s.size:=by rw [aX,aX,h9]
 have hb8:((a++cW++s).data[a.size+8]!).toNat=47:=by
  have e1:(a++cW++s)=a++(cW++s):=by
   refine aY ?_;rw [ByteArray.toList_eq,ByteArray.toList_eq,bQ,bQ,bQ,bQ,List.append_assoc]
  rw [e1,DH a (cW++s) 8 (by rw [aX];omega)]
  have h1:(cW++s).data=cW.data++s.data:=by
   refine Array.toList_inj.1 ?_;rw [bQ,Array.toList_append]
  have hm:cW.data.size=9:=rfl;rw [h1,getElem!_pos _ _ (by rw [Array.size_append];omega),Array.getElem_append_left (by omega)];rfl
 unfold Lib.lastIndexByte
 rcases Lib.lastIdx_spec (a++cW++s) 47 (a++cW++s).size with ⟨_,h⟩|⟨i,hi,h,h1,h2⟩
 · exfalso
   exact h (a.size+8) (by omega) (by rw [hb8];rfl)
 · rw [h]
   by_cases hlt:i<a.size+8
   · exfalso
     exact h2 (a.size+8) hlt (by omega) (by rw [hb8];rfl)
   · by_cases heq:i=a.size+8
     · rw [heq]
     · exfalso
       obtain ⟨j,rfl⟩:∃ j,i=(a++cW).size+j:=⟨i - (a++cW).size,by rw [aX];omega⟩;rw [aX,h9] at hi;have hj:j<s.size:=by omega
       rw [DH _ s j hj] at h1;have hsz:s.data.size=s.size:=rfl;rw [getElem!_pos _ _ (by omega)] at h1;have hm:s.data[j] ∈ s.data.toList:=by rw [←Array.getElem_toList];exact List.getElem_mem _
       have h47:s.data[j]=47:=UInt8.toNat_inj.1 (by have:(47:UInt8).toNat=47:=rfl;omega);rw [h47] at hm;exact oV hs hm
theorem OL (q:List ByteArray) (s:ByteArray):upP (q++[s])=q:=by
 unfold upP;rw [List.length_append]
 simp
theorem dZ {p:List ByteArray} (h0:p≠[]) (h:aI p=true):aF p=aL p:=by
 unfold aF;rw [if_neg h0,if_pos h];rfl
theorem OM {p:List ByteArray} (h0:p≠[]) (h:aI p=true):0≤Lib.lastIndexByte (aF p) 47∧(Lib.lastIndexByte (aF p) 47).toNat≤(aF p).size∧(aF p).extract 0 (Lib.lastIndexByte (aF p) 47).toNat=aL (upP p)++fO:=by
 obtain ⟨q,s,rfl⟩:∃ q s,p=q++[s]:=⟨p.dropLast,p.getLast h0,(List.dropLast_concat_getLast h0).symm⟩;rw [dZ h0 h,vY,OL]
 have hs:Sc.aG s.data.toList=true:=by
  unfold aI at h;rw [List.all_append,Bool.and_eq_true] at h
  simpa using h.2
 have hl:=FS (a:=aL q) hs;rw [hl];have h9:cW.size=9:=rfl;have h8:fO.size=8:=rfl;refine ⟨by omega,?_,?_⟩
 · rw [aX,aX,h9]
   omega
 · have e:((aL q).size+8:Nat)=(aL q++fO).size:=by rw [aX,h8]
   rw [Int.toNat_natCast,e]
   have e2:aL q++cW++s=(aL q++fO)++((⟨#[47]⟩:ByteArray)++s):=by
    refine aY ?_;rw [ByteArray.toList_eq,ByteArray.toList_eq,bQ,bQ,bQ,bQ,bQ];simp [cW,fO]
   rw [e2];refine aY ?_;rw [ByteArray.toList_eq,ByteArray.toList_eq,Sc.jI,Sc.cR,List.drop_zero,bQ,←aK,List.take_left]
set_option maxHeartbeats 1600000 in
theorem pG {p:List ByteArray} (h0:p≠[]) (h:aI p=true) (hz:(aJ p).length≤1024) (w:World):
 Calls Tryz.prog 77 #[.string (aF p)] w fun e w'=>e= .returned (.string (aL (upP p)++fO))∧Below w.heap.size w w':=by
 obtain ⟨m1,m2,m3⟩:=OM h0 h;have hsz:(aF p).size≤1024:=by rw [dZ h0 h,bV];exact hz
 have HLI:Hid (∀ W,Calls Tryz.prog 129 #[.string (aF p),.int .u8 47] W fun e w'=>e= .returned (.int .i64 (Lib.lastIndexByte (aF p) 47))∧w'=W):=fun W=>Tryz.strings_LastIndexByte (aF p) 47 (by omega) W
 rw [←m3];clear m3;obtain ⟨k,hk⟩:∃ k:Nat,Lib.lastIndexByte (aF p) 47=k:=⟨(Lib.lastIndexByte (aF p) 47).toNat,by omega⟩;rw [hk] at HLI m2 ⊢;rw [Int.toNat_natCast] at m2 ⊢;clear hk m1 hz h h0;generalize aF p=tx at*
 go_enter Tryz.func77,Tryz.ntmps77
 go_wp2_with (go_at_call 129;refine (HLI.out _).mono ?_;rintro e w1 ⟨rfl,hw1⟩;subst w1)
 go_ret;exact ⟨rfl,Below.refl _ _⟩
set_option maxHeartbeats 1600000 in
theorem KU (x:Fi) (hx:x.pa.size≤maxLen) {w:World} {Bf b n:Nat} {D:DataW Value} (hc:w.cell? ⟨Bf,0,none⟩=some (.map (some b))) (hBf:Bf<w.heap.size) (hown:w.ownsMap Tryz.prog 9 dV b n D) (hn:n<maxLen):
 Calls Tryz.prog 73 #[.agg #[.string x.pa,.bool x.dr,.string x.da],.pointer (some ⟨Bf,0,none⟩)] w fun e w'=>e= .returned (.tuple #[])∧w'.ownsMap Tryz.prog 9 dV b (n+1) (D.put (dP x.pa) (.held (eV x)))∧w.grownBy w' (some b):=by
 obtain ⟨W,hW⟩:∃ W,W=w.alloc (.cells #[.string x.pa,.bool x.dr,.string x.da] 45):=⟨_,rfl⟩;have hb:Below w.heap.size w W:=by rw [hW];exact (Below.refl _ _).alloc (Nat.le_refl _) _
 have c1:W.cell? ⟨Bf,0,none⟩=some (.map (some b)):=(hb.cell (p:=⟨Bf,0,none⟩) hBf).trans hc;have e0:W.cell? ⟨w.heap.size,0,none⟩=some (.string x.pa):=by rw [hW];simp
 have e1:W.cell? ⟨w.heap.size,1,none⟩=some (.bool x.dr):=by rw [hW];simp
 have e2:W.cell? ⟨w.heap.size,2,none⟩=some (.string x.da):=by rw [hW];simp
 obtain ⟨w2,hup,ho2,hg2⟩:=World.ownsMap.update (t:=74) (e:=45) (bK hown hb) iA Tryz.underlying74 hn (key:= .string x.pa) (val:=eV x) (lI hx) rfl;unfold eV at hup;have HO:=aB ho2
 have HG:Hid (w.grownBy w2 (some b)):=by
  refine ⟨hg2.os.trans hb.os,hg2.tape.trans hb.tape,hg2.output.trans hb.output,Nat.le_trans hb.size hg2.size,fun k hk hn=>(hg2.block k (Nat.lt_of_lt_of_le hk hb.size) hn).trans (hb.block k hk)⟩
 clear ho2 hg2 hown hc hn hx;subst hW;clear e0 e1 e2 hb hBf
 go_enter Tryz.func73,Tryz.ntmps73
 go_wp2
 go_end0
 exact ⟨rfl,HO.out,HG.out⟩
end Go.Proofs.YtlmpiohbmlddiaaGreatDoor
namespace Go.Proofs.YtlmpiohbmlddiaaGreatDoor
open Go.RowKit
set_option maxRecDepth 100000
structure Mn where
 d:List Dp
 v:List Dp
 o:List Dp
 p:List Dp
def MnAt (w:World) (P:Mn) (v1 v2 v3 v4:Value):Prop:=DepsAt w v1 P.d∧DepsAt w v2 P.v∧DepsAt w v3 P.o∧DepsAt w v4 P.p
theorem MnAt.below {w w':World} {P:Mn} {v1 v2 v3 v4:Value} (h:MnAt w P v1 v2 v3 v4) (hb:Below w.heap.size w w'):MnAt w' P v1 v2 v3 v4:=⟨h.1.below hb,h.2.1.below hb,h.2.2.1.below hb,h.2.2.2.below hb⟩
def BxM (w:World) (N:Nat) (v1 v2 v3 v4:Value):Prop:=w.cell? ⟨N,0,none⟩=some v1∧w.cell? ⟨N,1,none⟩=some v2∧w.cell? ⟨N,2,none⟩=some v3∧w.cell? ⟨N,3,none⟩=some v4∧N<w.heap.size
theorem kV (N:Nat) (v1 v2 v3 v4:Value):KeepP fun w1=>BxM w1 N v1 v2 v3 v4:=fun w w' h hb=>by
 obtain ⟨h0,h1,h2,h3,h4⟩:=h;have q:∀ i,w'.cell? ⟨N,i,none⟩=w.cell? ⟨N,i,none⟩:=fun i=>hb.cell (p:=⟨N,i,none⟩) h4
 exact ⟨by rw [q];exact h0,by rw [q];exact h1,by rw [q];exact h2,by rw [q];exact h3,Nat.lt_of_lt_of_le h4 hb.size⟩
theorem BxM.new {w:World} {N:Nat} (hN:w.heap.size=N) (v1 v2 v3 v4:Value):BxM (w.alloc (.cells #[v1,v2,v3,v4] 24)) N v1 v2 v3 v4:=by
 subst hN;refine ⟨?_,?_,?_,?_,?_⟩<;>simp
def bI (v1 v2 v3 v4:Value):Obj:= .cells #[.string ⟨#[110,101,101,100,115]⟩,v1,.string ⟨#[100,101,118]⟩,v2,.string ⟨#[108,105,107,101,115]⟩,v3,.string ⟨#[112,105,110,115]⟩,v4] 180 (0,0)
theorem kW (a1 a2 a3 a4:Option Addr) (l1 l2 l3 l4 c1 c2 c3 c4:Nat) (w:World):
 Calls Tryz.prog 120 #[.agg #[.slice a1 l1 c1,.slice a2 l2 c2,.slice a3 l3 c3,.slice a4 l4 c4]] w fun e w'=>∃ g,e= .returned (.slice (some ⟨g,0,none⟩) 4 4)∧Below w.heap.size w w'∧w.heap.size≤g∧w'.heap[g]? =some (bI (.slice a1 l1 c1) (.slice a2 l2 c2) (.slice a3 l3 c3) (.slice a4 l4 c4)):=by
 go_enter Tryz.func120,Tryz.ntmps120
 go_wp2
 go_ret;refine ⟨w.heap.size+1,by first|rfl|simp,aV _ _ _,by omega,?_⟩;show ((w.heap.push _).push _)[w.heap.size+1]? =_;rw [Array.getElem?_push,if_pos (by simp)];rfl
noncomputable def gX (P:Mn):Bool:=(bN P.d&&(bN P.v&&(bN P.o&&bN P.p)))&&eZ [P.d,P.v,P.o]
theorem ON {w:World} {A B C:List Dp} {v1 v2 v3:Value} (h1:DepsAt w v1 A) (h2:DepsAt w v2 B) (h3:DepsAt w v3 C):tG (w.alloc (.cells #[v1,v2,v3] 22)) w.heap.size 0 [A,B,C]:=by
 refine ⟨by simp,fun k hk=> ?_⟩
 match k,hk with
 |0,_=>exact ⟨v1,by simp,h1.below (aD _ _)⟩
 |1,_=>exact ⟨v2,by simp,h2.below (aD _ _)⟩
 |2,_=>exact ⟨v3,by simp,h3.below (aD _ _)⟩
theorem RO {w:World} {A B C:List Dp} {v1 v2 v3:Value} (h1:DepsAt w v1 A) (h2:DepsAt w v2 B) (h3:DepsAt w v3 C) (k1:iG A) (k2:iG B) (k3:iG C):Calls Tryz.prog 198 #[.slice (some ⟨w.heap.size,0,none⟩) 3 3] (w.alloc (.cells #[v1,v2,v3] 22)) fun e w'=>e= .returned (.bool (eZ [A,B,C]))∧Below (w.alloc (.cells #[v1,v2,v3] 22)).heap.size (w.alloc (.cells #[v1,v2,v3] 22)) w':=
 vO (Ls:=[A,B,C]) (ON h1 h2 h3) (fun L hL=>by
  simp only [List.mem_cons,List.not_mem_nil,or_false] at hL
  rcases hL with rfl|rfl|rfl<;>assumption) (by simp)
set_option maxHeartbeats 6400000 in
theorem wP {P:Mn} {v1 v2 v3 v4:Value} {w:World} (h:MnAt w P v1 v2 v3 v4):
 Calls Tryz.prog 156 #[.agg #[v1,v2,v3,v4]] w fun e w'=>e= .returned (.bool (gX P))∧Below w.heap.size w w':=by
 have HM1:Hid (∀ w1,Below w.heap.size w w1→Calls Tryz.prog 197 #[v1] w1 fun e w'=>e= .returned (.bool (bN P.d))∧Below w1.heap.size w1 w'):=fun w1 hb=>cV (h.1.below hb)
 have HM2:Hid (∀ w1,Below w.heap.size w w1→Calls Tryz.prog 197 #[v2] w1 fun e w'=>e= .returned (.bool (bN P.v))∧Below w1.heap.size w1 w'):=fun w1 hb=>cV (h.2.1.below hb)
 have HM3:Hid (∀ w1,Below w.heap.size w w1→Calls Tryz.prog 197 #[v3] w1 fun e w'=>e= .returned (.bool (bN P.o))∧Below w1.heap.size w1 w'):=fun w1 hb=>cV (h.2.2.1.below hb)
 have HM4:Hid (∀ w1,Below w.heap.size w w1→Calls Tryz.prog 197 #[v4] w1 fun e w'=>e= .returned (.bool (bN P.p))∧Below w1.heap.size w1 w'):=fun w1 hb=>cV (h.2.2.2.below hb)
 have HEO:Hid (bN P.d=true→bN P.v=true→bN P.o=true→∀ w1,Below w.heap.size w w1→Calls Tryz.prog 198 #[.slice (some ⟨w1.heap.size,0,none⟩) 3 3] (w1.alloc (.cells #[v1,v2,v3] 22)) fun e w'=>e= .returned (.bool (eZ [P.d,P.v,P.o]))∧Below (w1.alloc (.cells #[v1,v2,v3] 22)).heap.size (w1.alloc (.cells #[v1,v2,v3] 22)) w'):=fun g1 g2 g3 w1 hb=>RO (h.1.below hb) (h.2.1.below hb) (h.2.2.1.below hb) (cP g1) (cP g2) (cP g3)
 have HSB:Hid (gX P=((bN P.d&&(bN P.v&&(bN P.o&&bN P.p)))&&eZ [P.d,P.v,P.o])):=rfl;obtain ⟨a1,c1,rfl⟩:=h.1.sl;obtain ⟨a2,c2,rfl⟩:=h.2.1.sl;obtain ⟨a3,c3,rfl⟩:=h.2.2.1.sl;obtain ⟨a4,c4,rfl⟩:=h.2.2.2.sl;have HLI:Hid (∀ w1,Calls Tryz.prog 120 #[.agg #[.slice a1 P.d.length c1,.slice a2 P.v.length c2,.slice a3 P.o.length c3,.slice a4 P.p.length c4]] w1 fun e w'=>∃ g,e= .returned (.slice (some ⟨g,0,none⟩) 4 4)∧Below w1.heap.size w1 w'∧w1.heap.size≤g∧w'.heap[g]? =some (bI (.slice a1 P.d.length c1) (.slice a2 P.v.length c2) (.slice a3 P.o.length c3) (.slice a4 P.p.length c4))):=fun w1=>kW _ _ _ _ _ _ _ _ _ _ _ _ w1
 clear h;generalize gX P=SB at*;generalize eZ [P.d,P.v,P.o]=ob at*;generalize bN P.d=m1 at*;generalize bN P.v=m2 at*;generalize bN P.o=m3 at*;generalize bN P.p=m4 at*;generalize P.d.length=l1 at*;generalize P.v.length=l2 at*;generalize P.o.length=l3 at*;generalize P.p.length=l4 at*;have HKB:Hid (KeepP fun w1=>BxM w1 w.heap.size (.slice a1 l1 c1) (.slice a2 l2 c2) (.slice a3 l3 c3) (.slice a4 l4 c4)):=kV _ _ _ _ _
 go_enter Tryz.func156,Tryz.ntmps156
 go_wp2_with (go_at_call 120;refine (HLI.out _).mono ?_;rintro e w3 ⟨g,rfl,ok,hg,hgl⟩;have HO3:Hid ((Below w.heap.size w w3∧BxM w3 w.heap.size (.slice a1 l1 c1) (.slice a2 l2 c2) (.slice a3 l3 c3) (.slice a4 l4 c4))∧w3.heap[g]? =some (bI (.slice a1 l1 c1) (.slice a2 l2 c2) (.slice a3 l3 c3) (.slice a4 l4 c4))):=⟨⟨aA (aD _ _) ok,HKB.out _ _ (BxM.new rfl _ _ _ _) ok⟩,hgl⟩;clear ok hg hgl)
 go_loopw [8] (fun i wr=>∃ k:Nat,k≤4∧i= .int .i64 k∧((Below w.heap.size w wr∧BxM wr w.heap.size (.slice a1 l1 c1) (.slice a2 l2 c2) (.slice a3 l3 c3) (.slice a4 l4 c4))∧wr.heap[g]? =some (bI (.slice a1 l1 c1) (.slice a2 l2 c2) (.slice a3 l3 c3) (.slice a4 l4 c4)))∧(1≤k→m1=true)∧(2≤k→m2=true)∧(3≤k→m3=true)∧(4≤k→m4=true)) (fun i _=>4 - (intOf i).toNat)
 case atStart=>exact ⟨0,Nat.zero_le _,rfl,HO3.out,(fun h=>by omega),(fun h=>by omega),(fun h=>by omega),(fun h=>by omega)⟩
 case round=>
  obtain ⟨k,hk,rfl,hb,e1,e2,e3,e4⟩:=hrel;have HB:=aB hb
  rcases (show k=0∨k=1∨k=2∨k=3∨k=4 by omega) with rfl|rfl|rfl|rfl|rfl
  · have q0:wr.cell? ⟨g,0,none⟩=some (.string ⟨#[110,101,101,100,115]⟩):=by rw [Lib.cell_of_heap HB.out.2];rfl
    have q1:wr.cell? ⟨g,1,none⟩=some (.slice a1 l1 c1):=by rw [Lib.cell_of_heap HB.out.2];rfl
    have HBA:Hid ((Below w.heap.size w (wr.alloc (.cells #[.string ⟨#[110,101,101,100,115]⟩,.slice a1 l1 c1] 180))∧BxM (wr.alloc (.cells #[.string ⟨#[110,101,101,100,115]⟩,.slice a1 l1 c1] 180)) w.heap.size (.slice a1 l1 c1) (.slice a2 l2 c2) (.slice a3 l3 c3) (.slice a4 l4 c4))∧(wr.alloc (.cells #[.string ⟨#[110,101,101,100,115]⟩,.slice a1 l1 c1] 180)).heap[g]? =some (bI (.slice a1 l1 c1) (.slice a2 l2 c2) (.slice a3 l3 c3) (.slice a4 l4 c4))):=⟨⟨aA HB.out.1.1 (aD _ _),HKB.out _ _ HB.out.1.2 (aD _ _)⟩,((aD _ _).block g (Array.getElem?_eq_some_iff.1 HB.out.2).1).trans HB.out.2⟩;clear hb e1 e2 e3 e4;cases m1
    · have HR:Hid (SB=false):=by unfold Hid;rw [HSB.out];simp
      go_wp2_with (go_at_call 197;refine (HM1.out _ HBA.out.1.1).mono ?_;rintro e w4 ⟨rfl,ok⟩;have HO4:=aB (aA HBA.out.1.1 ok);clear ok)
      go_ret;exact ⟨aC HR.out.symm,HO4.out⟩
    · go_wp2_with (go_at_call 197;refine (HM1.out _ HBA.out.1.1).mono ?_;rintro e w4 ⟨rfl,ok⟩;have HO4:Hid ((Below w.heap.size w w4∧BxM w4 w.heap.size (.slice a1 l1 c1) (.slice a2 l2 c2) (.slice a3 l3 c3) (.slice a4 l4 c4))∧w4.heap[g]? =some (bI (.slice a1 l1 c1) (.slice a2 l2 c2) (.slice a3 l3 c3) (.slice a4 l4 c4))):=⟨⟨aA HBA.out.1.1 ok,HKB.out _ _ HBA.out.1.2 ok⟩,(ok.block g (Array.getElem?_eq_some_iff.1 HBA.out.2).1).trans HBA.out.2⟩;clear ok)
      exact ⟨⟨1,by omega,rfl,HO4.out,(fun _=>trivial),(fun h=>by omega),(fun h=>by omega),(fun h=>by omega)⟩,by simp [intOf]⟩
  · have e1':=e1 (by omega)
    subst e1';have q0:wr.cell? ⟨g,2,none⟩=some (.string ⟨#[100,101,118]⟩):=by rw [Lib.cell_of_heap HB.out.2];rfl
    have q1:wr.cell? ⟨g,3,none⟩=some (.slice a2 l2 c2):=by rw [Lib.cell_of_heap HB.out.2];rfl
    have HBA:Hid ((Below w.heap.size w (wr.alloc (.cells #[.string ⟨#[100,101,118]⟩,.slice a2 l2 c2] 180))∧BxM (wr.alloc (.cells #[.string ⟨#[100,101,118]⟩,.slice a2 l2 c2] 180)) w.heap.size (.slice a1 l1 c1) (.slice a2 l2 c2) (.slice a3 l3 c3) (.slice a4 l4 c4))∧(wr.alloc (.cells #[.string ⟨#[100,101,118]⟩,.slice a2 l2 c2] 180)).heap[g]? =some (bI (.slice a1 l1 c1) (.slice a2 l2 c2) (.slice a3 l3 c3) (.slice a4 l4 c4))):=⟨⟨aA HB.out.1.1 (aD _ _),HKB.out _ _ HB.out.1.2 (aD _ _)⟩,((aD _ _).block g (Array.getElem?_eq_some_iff.1 HB.out.2).1).trans HB.out.2⟩;clear hb e1 e2 e3 e4;cases m2
    · have HR:Hid (SB=false):=by unfold Hid;rw [HSB.out];simp
      go_wp2_with (go_at_call 197;refine (HM2.out _ HBA.out.1.1).mono ?_;rintro e w4 ⟨rfl,ok⟩;have HO4:=aB (aA HBA.out.1.1 ok);clear ok)
      go_ret;exact ⟨aC HR.out.symm,HO4.out⟩
    · go_wp2_with (go_at_call 197;refine (HM2.out _ HBA.out.1.1).mono ?_;rintro e w4 ⟨rfl,ok⟩;have HO4:Hid ((Below w.heap.size w w4∧BxM w4 w.heap.size (.slice a1 l1 c1) (.slice a2 l2 c2) (.slice a3 l3 c3) (.slice a4 l4 c4))∧w4.heap[g]? =some (bI (.slice a1 l1 c1) (.slice a2 l2 c2) (.slice a3 l3 c3) (.slice a4 l4 c4))):=⟨⟨aA HBA.out.1.1 ok,HKB.out _ _ HBA.out.1.2 ok⟩,(ok.block g (Array.getElem?_eq_some_iff.1 HBA.out.2).1).trans HBA.out.2⟩;clear ok)
      exact ⟨⟨2,by omega,rfl,HO4.out,(fun _=>trivial),(fun _=>trivial),(fun h=>by omega),(fun h=>by omega)⟩,by simp [intOf]⟩
  · have e1':=e1 (by omega)
    have e2':=e2 (by omega);subst e1' e2';have q0:wr.cell? ⟨g,4,none⟩=some (.string ⟨#[108,105,107,101,115]⟩):=by rw [Lib.cell_of_heap HB.out.2];rfl
    have q1:wr.cell? ⟨g,5,none⟩=some (.slice a3 l3 c3):=by rw [Lib.cell_of_heap HB.out.2];rfl
    have HBA:Hid ((Below w.heap.size w (wr.alloc (.cells #[.string ⟨#[108,105,107,101,115]⟩,.slice a3 l3 c3] 180))∧BxM (wr.alloc (.cells #[.string ⟨#[108,105,107,101,115]⟩,.slice a3 l3 c3] 180)) w.heap.size (.slice a1 l1 c1) (.slice a2 l2 c2) (.slice a3 l3 c3) (.slice a4 l4 c4))∧(wr.alloc (.cells #[.string ⟨#[108,105,107,101,115]⟩,.slice a3 l3 c3] 180)).heap[g]? =some (bI (.slice a1 l1 c1) (.slice a2 l2 c2) (.slice a3 l3 c3) (.slice a4 l4 c4))):=⟨⟨aA HB.out.1.1 (aD _ _),HKB.out _ _ HB.out.1.2 (aD _ _)⟩,((aD _ _).block g (Array.getElem?_eq_some_iff.1 HB.out.2).1).trans HB.out.2⟩;clear hb e1 e2 e3 e4;cases m3
    · have HR:Hid (SB=false):=by unfold Hid;rw [HSB.out];simp
      go_wp2_with (go_at_call 197;refine (HM3.out _ HBA.out.1.1).mono ?_;rintro e w4 ⟨rfl,ok⟩;have HO4:=aB (aA HBA.out.1.1 ok);clear ok)
      go_ret;exact ⟨aC HR.out.symm,HO4.out⟩
    · go_wp2_with (go_at_call 197;refine (HM3.out _ HBA.out.1.1).mono ?_;rintro e w4 ⟨rfl,ok⟩;have HO4:Hid ((Below w.heap.size w w4∧BxM w4 w.heap.size (.slice a1 l1 c1) (.slice a2 l2 c2) (.slice a3 l3 c3) (.slice a4 l4 c4))∧w4.heap[g]? =some (bI (.slice a1 l1 c1) (.slice a2 l2 c2) (.slice a3 l3 c3) (.slice a4 l4 c4))):=⟨⟨aA HBA.out.1.1 ok,HKB.out _ _ HBA.out.1.2 ok⟩,(ok.block g (Array.getElem?_eq_some_iff.1 HBA.out.2).1).trans HBA.out.2⟩;clear ok)
      exact ⟨⟨3,by omega,rfl,HO4.out,(fun _=>trivial),(fun _=>trivial),(fun _=>trivial),(fun h=>by omega)⟩,by simp [intOf]⟩
  · have e1':=e1 (by omega)
    have e2':=e2 (by omega);have e3':=e3 (by omega);subst e1' e2' e3';have q0:wr.cell? ⟨g,6,none⟩=some (.string ⟨#[112,105,110,115]⟩):=by rw [Lib.cell_of_heap HB.out.2];rfl
    have q1:wr.cell? ⟨g,7,none⟩=some (.slice a4 l4 c4):=by rw [Lib.cell_of_heap HB.out.2];rfl
    have HBA:Hid ((Below w.heap.size w (wr.alloc (.cells #[.string ⟨#[112,105,110,115]⟩,.slice a4 l4 c4] 180))∧BxM (wr.alloc (.cells #[.string ⟨#[112,105,110,115]⟩,.slice a4 l4 c4] 180)) w.heap.size (.slice a1 l1 c1) (.slice a2 l2 c2) (.slice a3 l3 c3) (.slice a4 l4 c4))∧(wr.alloc (.cells #[.string ⟨#[112,105,110,115]⟩,.slice a4 l4 c4] 180)).heap[g]? =some (bI (.slice a1 l1 c1) (.slice a2 l2 c2) (.slice a3 l3 c3) (.slice a4 l4 c4))):=⟨⟨aA HB.out.1.1 (aD _ _),HKB.out _ _ HB.out.1.2 (aD _ _)⟩,((aD _ _).block g (Array.getElem?_eq_some_iff.1 HB.out.2).1).trans HB.out.2⟩;clear hb e1 e2 e3 e4;cases m4
    · have HR:Hid (SB=false):=by unfold Hid;rw [HSB.out];simp
      go_wp2_with (go_at_call 197;refine (HM4.out _ HBA.out.1.1).mono ?_;rintro e w4 ⟨rfl,ok⟩;have HO4:=aB (aA HBA.out.1.1 ok);clear ok)
      go_ret;exact ⟨aC HR.out.symm,HO4.out⟩
    · go_wp2_with (go_at_call 197;refine (HM4.out _ HBA.out.1.1).mono ?_;rintro e w4 ⟨rfl,ok⟩;have HO4:Hid ((Below w.heap.size w w4∧BxM w4 w.heap.size (.slice a1 l1 c1) (.slice a2 l2 c2) (.slice a3 l3 c3) (.slice a4 l4 c4))∧w4.heap[g]? =some (bI (.slice a1 l1 c1) (.slice a2 l2 c2) (.slice a3 l3 c3) (.slice a4 l4 c4))):=⟨⟨aA HBA.out.1.1 ok,HKB.out _ _ HBA.out.1.2 ok⟩,(ok.block g (Array.getElem?_eq_some_iff.1 HBA.out.2).1).trans HBA.out.2⟩;clear ok)
      exact ⟨⟨4,by omega,rfl,HO4.out,(fun _=>trivial),(fun _=>trivial),(fun _=>trivial),(fun _=>trivial)⟩,by simp [intOf]⟩
  · have e1':=e1 (by omega)
    have e2':=e2 (by omega);have e3':=e3 (by omega);have e4':=e4 (by omega);subst e1' e2' e3' e4';have HR:Hid (SB=ob):=by unfold Hid;rw [HSB.out];simp
    have HEW:=aB (HEO.out rfl rfl rfl);obtain ⟨k0,k1,k2,k3,k4⟩:=HB.out.1.2;clear hb e1 e2 e3 e4
    go_wp2_with (go_at_call 198;refine (HEW.out _ HB.out.1.1).mono ?_;rintro e w4 ⟨rfl,ok⟩;have HO4:=aB (aA (aA HB.out.1.1 (aD _ _)) ok);clear ok)
    go_ret;exact ⟨aC HR.out.symm,HO4.out⟩
end Go.Proofs.YtlmpiohbmlddiaaGreatDoor
