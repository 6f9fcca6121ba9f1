/- Mf4, Pw1, Mf7, Pn1, Lo3, Lo4, Lo5, Lo6, Lo8, Rk2, Tw12: their declarations that are needed, laid in one text, remarks and blanks left out. -/
import Derived.Test.YtlmpiohbmlddiaaGreatDoorMo18
namespace Go.Proofs.YtlmpiohbmlddiaaGreatDoor
open Go.RowKit
set_option maxRecDepth 100000
theorem dC {w:World} {N i j:Nat} {u x:Value} (h:i≠j) (hx:w.cell? ⟨N,j,none⟩=some x):(w.setCell ⟨N,i,none⟩ u).cell? ⟨N,j,none⟩=some x:=(World.cell?_setCell_other _ _ _ _ (fun e=>by cases e;exact h rfl)).trans hx
theorem UM {w:World} {N:Nat} {x0 x1 x2 x3:Value} (j0:w.cell? ⟨N,0,none⟩=some x0) (j1:w.cell? ⟨N,1,none⟩=some x1) (j2:w.cell? ⟨N,2,none⟩=some x2) (j3:w.cell? ⟨N,3,none⟩=some x3) (u0 u1 u2 u3:Value):
 ((((w.setCell ⟨N,0,none⟩ u0).setCell ⟨N,1,none⟩ u1).setCell ⟨N,2,none⟩ u2).setCell ⟨N,3,none⟩ u3).cell? ⟨N,0,none⟩=some u0∧((((w.setCell ⟨N,0,none⟩ u0).setCell ⟨N,1,none⟩ u1).setCell ⟨N,2,none⟩ u2).setCell ⟨N,3,none⟩ u3).cell? ⟨N,1,none⟩=some u1∧((((w.setCell ⟨N,0,none⟩ u0).setCell ⟨N,1,none⟩ u1).setCell ⟨N,2,none⟩ u2).setCell ⟨N,3,none⟩ u3).cell? ⟨N,2,none⟩=some u2∧((((w.setCell ⟨N,0,none⟩ u0).setCell ⟨N,1,none⟩ u1).setCell ⟨N,2,none⟩ u2).setCell ⟨N,3,none⟩ u3).cell? ⟨N,3,none⟩=some u3:=by
 exact ⟨dC (by decide) (dC (by decide) (dC (by decide) (World.cell?_setCell_same _ _ _ (j0)))),dC (by decide) (dC (by decide) (World.cell?_setCell_same _ _ _ (dC (by decide) (j1)))),dC (by decide) (World.cell?_setCell_same _ _ _ (dC (by decide) (dC (by decide) (j2)))),World.cell?_setCell_same _ _ _ (dC (by decide) (dC (by decide) (dC (by decide) (j3))))⟩
def mfW:List Sc.Bs:=[[110,101,101,100,115],[100,101,118],[108,105,107,101,115],[112,105,110,115]]
def oY:List (List Sc.Bs)→Int
 |[]=>22
 |h::r=>if h=[[112,114,111,106,101,99,116]] then (eA mfW 0 [[],[],[],[]] r).1 else 22
def oZ:List (List Sc.Bs)→Mn
 |[]=>⟨[],[],[],[]⟩
 |_::r=>⟨(eA mfW 0 [[],[],[],[]] r).2.getD 0 [],(eA mfW 0 [[],[],[],[]] r).2.getD 1 [],(eA mfW 0 [[],[],[],[]] r).2.getD 2 [],(eA mfW 0 [[],[],[],[]] r).2.getD 3 []⟩
def OwnM (w:World) (B:Nat) (P:Mn) (v1 v2 v3 v4:Value):Prop:=∃ q1 q2 q3 q4,(OwnD w B v1 q1∧q1.map (·.1)=P.d)∧(OwnD w B v2 q2∧q2.map (·.1)=P.v)∧(OwnD w B v3 q3∧q3.map (·.1)=P.o)∧(OwnD w B v4 q4∧q4.map (·.1)=P.p)
theorem OwnM.below {w w':World} {B:Nat} {P:Mn} {v1 v2 v3 v4:Value} (h:OwnM w B P v1 v2 v3 v4) (hb:Below w.heap.size w w'):OwnM w' B P v1 v2 v3 v4:=by
 obtain ⟨q1,q2,q3,q4,h1,h2,h3,h4⟩:=h;exact ⟨q1,q2,q3,q4,⟨h1.1.below hb,h1.2⟩,⟨h2.1.below hb,h2.2⟩,⟨h3.1.below hb,h3.2⟩,h4.1.below hb,h4.2⟩
theorem OwnM.base {w:World} {B C:Nat} {P:Mn} {v1 v2 v3 v4:Value} (h:OwnM w B P v1 v2 v3 v4) (hc:C≤B):OwnM w C P v1 v2 v3 v4:=by
 obtain ⟨q1,q2,q3,q4,h1,h2,h3,h4⟩:=h;exact ⟨q1,q2,q3,q4,⟨h1.1.base hc,h1.2⟩,⟨h2.1.base hc,h2.2⟩,⟨h3.1.base hc,h3.2⟩,h4.1.base hc,h4.2⟩
theorem OwnM.at {w:World} {B:Nat} {P:Mn} {v1 v2 v3 v4:Value} (h:OwnM w B P v1 v2 v3 v4):MnAt w P v1 v2 v3 v4:=by
 obtain ⟨q1,q2,q3,q4,h1,h2,h3,h4⟩:=h;exact ⟨h1.2 ▸ h1.1.at,h2.2 ▸ h2.1.at,h3.2 ▸ h3.1.at,h4.2 ▸ h4.1.at⟩
theorem mH (x y:Sc.Bs) (r:List Sc.Bs) (sep:Sc.Bs):Lib.join (x::y::r) sep=x++sep++Lib.join (y::r) sep:=by
 rw [Lib.join_cons,Lib.join_cons];simp [Lib.joinTail]
theorem zK:∀ {A B:List Sc.Bs},A≠[]→B≠[]→Lib.join (A++B) [32]=Lib.join A [32]++[32]++Lib.join B [32]
 |[],_,h,_=>absurd rfl h
 |[x],[],_,h=>absurd rfl h
 |[x],y::r,_,_=>by
  show Lib.join (x::y::r) [32]=_;rw [mH,Lib.join_one]
 |x::y::r,B,_,hb=>by
  have ih:=zK (A:=y::r) (B:=B) (by simp) hb;show Lib.join (x::y::(r++B)) [32]=_;rw [mH,mH,show y::(r++B)=(y::r)++B from rfl,ih]
  simp
def jD (s:Sc.Bs):Prop:=∃ ws:List Sc.Bs,ws≠[]∧ws.all Sc.isW=true∧Lib.join ws [32]=s
theorem eW {s:Sc.Bs} (h:Sc.isW s=true):jD s:=⟨[s],by simp,by simp [h],Lib.join_one _ _⟩
theorem nR {s t:Sc.Bs} (hs:jD s) (ht:jD t):jD (s++[32]++t):=by
 obtain ⟨a,h1,h2,rfl⟩:=hs;obtain ⟨b,k1,k2,rfl⟩:=ht;exact ⟨a++b,by simp [h1],by rw [List.all_append,h2,k2];rfl,zK h1 k1⟩
theorem iK {a b c:Int} (h:aZ a b c=true) (sg:Sc.Bs) (hs:sg.all Sc.wB=true):Sc.isW (sg++(aI a b c).data.toList)=true:=by
 unfold Sc.isW;rw [List.all_append,hs]
 have h1:(aI a b c).data.toList.all Sc.wB=true:=List.all_eq_true.2 fun x hx=>by
  unfold Sc.wB
  rcases kZ h x hx with e|e<;>simp<;>omega
 rw [h1];have h2:=nE h
 have h3:(sg++(aI a b c).data.toList).isEmpty=false:=by
  rw [List.isEmpty_eq_false_iff];intro e
  have:=congrArg List.length e
  rw [List.length_append] at this;simp only [List.length_nil] at this;omega
 rw [h3];rfl
theorem uE {p:Int×Int} (h1:okR p.1) (h2:okR p.2):jD (spT p).data.toList:=by
 have m1:=(iN h1.has).1;have m2:=(iN h2.has).1;unfold spT fK
 split
 · exact eW (iK m1 [] rfl)
 · split
   · exact eW (by decide)
   · split
     · rw [bD];exact eW (iK m2 [60,61] (by decide))
     · split
       · rw [bD];exact eW (iK m1 [62,61] (by decide))
       · rw [bD,bD,bD]
         have:=nR (eW (iK m1 [62,61] (by decide))) (eW (iK m2 [60,61] (by decide)))
         simpa using this
theorem oF:∀ (A:Rg),A≠[]→(∀ p ∈ A,okR p.1∧okR p.2)→jD (cK A).data.toList
 |[],h,_=>absurd rfl h
 |[p],_,h=>by
  show jD (Lib.join [(spT p).data.toList] [32,124,124,32]);rw [Lib.join_one];exact uE (h p List.mem_cons_self).1 (h p List.mem_cons_self).2
 |p::q::r,_,h=>by
  have ih:jD (Lib.join ((q::r).map fun p=>(spT p).data.toList) [32,124,124,32]):=oF (q::r) (by simp) fun x hx=>h x (List.mem_cons_of_mem _ hx)
  have h1:=uE (h p List.mem_cons_self).1 (h p List.mem_cons_self).2;show jD (Lib.join ((spT p).data.toList::(spT q).data.toList::r.map fun p=>(spT p).data.toList) [32,124,124,32]);rw [mH]
  have:=nR (nR h1 (eW (s:=[124,124]) (by decide))) ih
  simpa using this
theorem oG {L:List Sp} (h:bT L=true):∃ ws:List Sc.Bs,ws≠[]∧ws.all Sc.isW=true∧Lib.join ws [32]=(prS L).data.toList∧SE (sM (jnT ws))=0∧(LF (sM (jnT ws))).map spR=L:=by
 have h0:=h;unfold bT at h;rw [Bool.and_eq_true,decide_eq_true_eq] at h;obtain ⟨A,rfl,hA,hl⟩:=oT.1 h.2;have hne:A≠[]:=by rintro rfl;simp at h
 obtain ⟨ws,w1,w2,w3⟩:=oF A hne fun p hp=>⟨(hA.ok p hp).1,(hA.ok p hp).2.1⟩
 have hj:jnT ws=cK A:=by
  unfold jnT;rw [w3]
 refine ⟨ws,w1,w2,?_,?_,?_⟩
 · unfold prS;rw [MF hA];exact w3
 · rw [hj,tO hA hl];show LA A.length=0;unfold LA;rw [if_pos hl]
 · rw [hj,tO hA hl];show (PL A).map spR=_;rw [SA hl]
noncomputable def rgW (L:List Sp):List Sc.Bs:=if h:bT L=true then (oG h).choose else []
theorem rN {L:List Sp} (h:bT L=true):rgW L≠[]∧(rgW L).all Sc.isW=true∧Lib.join (rgW L) [32]=(prS L).data.toList∧SE (sM (jnT (rgW L)))=0∧(LF (sM (jnT (rgW L)))).map spR=L:=by
 unfold rgW;rw [dif_pos h];exact (oG h).choose_spec
noncomputable def mI (x:Sc.Bs) (d:Dp):List Sc.Bs:=x::d.nm.data.toList::rgW d.rg
noncomputable def cB (x:Sc.Bs) (L:List Dp):List (List Sc.Bs):=L.map (mI x)
theorem jE:∀ {ws:List Sc.Bs},ws≠[]→Sc.bK ws=Lib.join ws [32]++[10]
 |[],h=>absurd rfl h
 |[x],_=>by rw [Lib.join_one];rfl
 |x::y::r,_=>by
  have ih:=jE (ws:=y::r) (by simp);show x++[32]++Sc.bK (y::r)=_;rw [mH,ih]
  simp
theorem DG {x:ByteArray} {d:Dp} (h:bT d.rg=true):Sc.bK (mI x.data.toList d)=fB x d.nm (prS d.rg):=by
 obtain ⟨h1,_,h3,_⟩:=rN h;unfold mI fB;rw [jE (by simp),mH];cases hw:rgW d.rg with
 |nil=>exact absurd hw h1
 |cons y r=>rw [mH,←hw,h3];simp
theorem dO {x:ByteArray}:∀ {L:List Dp},(∀ d ∈ L,bT d.rg=true)→Sc.aM (cB x.data.toList L)=bI x L
 |[],_=>rfl
 |d::L,h=>by
  have ih:=dO (x:=x) (L:=L) fun e he=>h e (List.mem_cons_of_mem _ he)
  have e1:Sc.aM (cB x.data.toList (d::L))=Sc.bK (mI x.data.toList d)++Sc.aM (cB x.data.toList L):=by simp [Sc.aM,cB]
  have e2:bI x (d::L)=fB x d.nm (prS d.rg)++bI x L:=by simp [bI]
  rw [e1,e2,ih,DG (h d List.mem_cons_self)]
theorem uF {s:Sc.Bs} (h:Sc.aK s=true):Sc.isW s=true:=by
 unfold Sc.aK at h;rw [Bool.and_eq_true,Bool.and_eq_true] at h
 have h1:s.all Sc.wB=true:=List.all_eq_true.2 fun b hb=>by
  have:=List.all_eq_true.1 h.1.2 b hb
  unfold Sc.nmB Sc.ltB Sc.dgB at this;unfold Sc.wB
  simp at this ⊢
  omega
 cases s with
 |nil=>simp [Sc.xI] at h
 |cons b r=>unfold Sc.isW;rw [h1];rfl
theorem bN:∀ {L:List Dp} {q:Option ByteArray},dA q L=true→∀ d ∈ L,Sc.aK d.nm.data.toList=true∧bT d.rg=true
 |[],_,_,d,hd=>by cases hd
 |e::M,q,hq,d,hd=>by
  rw [dA,Bool.and_eq_true,Bool.and_eq_true] at hq
  rcases List.mem_cons.1 hd with rfl|hd
  · have:=hq.1.1
    unfold cV at this;rw [Bool.and_eq_true] at this;exact ⟨this.1,hq.1.2⟩
  · exact bN hq.2 d hd
theorem gE {x:Sc.Bs} (hx:Sc.isW x=true) {L:List Dp} (h:∀ d ∈ L,Sc.aK d.nm.data.toList=true∧bT d.rg=true):(cB x L).all Sc.isL=true:=by
 refine List.all_eq_true.2 fun l hl=> ?_
 obtain ⟨d,hd,rfl⟩:=List.mem_map.1 hl;obtain ⟨_,h2,_⟩:=rN (h d hd).2;unfold Sc.isL mI;rw [List.all_cons,List.all_cons,hx,uF (h d hd).1,h2];rfl
theorem DH (A:List Dp) (d:Dp):dZ (A++[d])=some d.nm:=by
 unfold dZ;rw [List.getLast?_concat];rfl
theorem eB {X:List Sc.Bs} {x:Sc.Bs} {k:Nat} (hx:sS X x=(k:Int)):∀ (L:List Dp) (rest:List (List Sc.Bs)) (acc:List (List Dp)) (a:Nat),a≤k→k<acc.length→dA (dZ (acc.getD k [])) L=true→
 ∃ a',a'≤k∧eA X a acc (cB x L++rest)=eA X a' (acc.set k (acc.getD k []++L)) rest
 |[],rest,acc,a,ha,hk,_=>by
  refine ⟨a,ha,?_⟩
  have e:acc.set k (acc.getD k []++[])=acc:=by
   rw [List.append_nil,List.getD_eq_getElem?_getD,List.getElem?_eq_getElem hk];exact List.set_getElem_self hk
  rw [e];rfl
 |d::L,rest,acc,a,ha,hk,hr=>by
  rw [dA,Bool.and_eq_true,Bool.and_eq_true] at hr;obtain ⟨⟨h1,h2⟩,h3⟩:=hr;obtain ⟨w1,w2,w3,w4,w5⟩:=rN h2
  have hd:DE (mI x d)=d:=by
   show (⟨Sc.ba d.nm.data.toList,(LF (sM (jnT (rgW d.rg)))).map spR⟩:Dp)=d;rw [Sc.hF,w5]
  have hs:eA X a acc (mI x d::(cB x L++rest))=eA X k (acc.set k (acc.getD k []++[d])) (cB x L++rest):=by
   rw [DF (k:=k) ?_ hx ha ?_,hd]
   · unfold mI
     cases hw:rgW d.rg with
     |nil=>exact absurd hw w1
     |cons y r=>simp
   · show OB (dZ (acc.getD k [])) (Sc.ba d.nm.data.toList) (rgW d.rg)=0
     unfold OB;rw [Sc.hF,if_pos h1,w5,if_pos ⟨w4,h2⟩]
  have hl:(acc.set k (acc.getD k []++[d])).getD k []=acc.getD k []++[d]:=by
   rw [List.getD_eq_getElem?_getD,List.getElem?_set_self hk];rfl
  obtain ⟨a',ha',e⟩:=eB hx L rest (acc.set k (acc.getD k []++[d])) k (Nat.le_refl _) (by rw [List.length_set];exact hk) (by rw [hl,DH];exact h3);refine ⟨a',ha',?_⟩;rw [hl,List.set_set] at e;show eA X a acc (mI x d::(cB x L++rest))=_;rw [hs,e,List.append_assoc];rfl
noncomputable def uG (t:ByteArray):Int:=if Sc.nJ t 4096=0 then (if oY (Sc.gU t 4096)=0 then (if aL (oZ (Sc.gU t 4096))=true then 0 else 25) else oY (Sc.gU t 4096)) else Sc.nJ t 4096
def zL (t:ByteArray):Mn:=oZ (Sc.gU t 4096)
noncomputable def mnL (P:Mn):List (List Sc.Bs):=[[112,114,111,106,101,99,116]]::(cB (mwK 0).data.toList P.d++(cB (mwK 1).data.toList P.v++(cB (mwK 2).data.toList P.o++(cB (mwK 3).data.toList P.p++[]))))
theorem lG {P:Mn} (h:eI P=true):dA none P.d=true∧dA none P.v=true∧dA none P.o=true∧dA none P.p=true:=by
 unfold eI bO at h;simp only [Bool.and_eq_true] at h;exact ⟨h.1.1.2,h.1.2.1.2,h.1.2.2.1.2,h.1.2.2.2.2⟩
theorem OC {P:Mn} (h:eI P=true):Sc.aM (mnL P)=jG P:=by
 obtain ⟨h1,h2,h3,h4⟩:=lG h;have e:∀ (l:List Sc.Bs) (L:List (List Sc.Bs)),Sc.aM (l::L)=Sc.bK l++Sc.aM L:=fun l L=>by simp [Sc.aM]
 have e2:∀ (K L:List (List Sc.Bs)),Sc.aM (K++L)=Sc.aM K++Sc.aM L:=fun K L=>by simp [Sc.aM]
 unfold mnL jG gX;rw [e,e2,e2,e2,e2,dO fun d hd=>(bN h1 d hd).2,dO fun d hd=>(bN h2 d hd).2,dO fun d hd=>(bN h3 d hd).2,dO fun d hd=>(bN h4 d hd).2,jE (by simp),Lib.join_one];simp [Sc.aM]
theorem SX {P:Mn} (h:eI P=true):(mnL P).all Sc.isL=true:=by
 obtain ⟨h1,h2,h3,h4⟩:=lG h;unfold mnL;rw [List.all_cons,List.all_append,List.all_append,List.all_append,List.all_append,gE (by decide) (bN h1),gE (by decide) (bN h2),gE (by decide) (bN h3),gE (by decide) (bN h4)];rfl
theorem FV {P:Mn} (h:eI P=true):eA mfW 0 [[],[],[],[]] (cB (mwK 0).data.toList P.d++(cB (mwK 1).data.toList P.v++(cB (mwK 2).data.toList P.o++(cB (mwK 3).data.toList P.p++[]))))=(0,[P.d,P.v,P.o,P.p]):=by
 obtain ⟨h1,h2,h3,h4⟩:=lG h;obtain ⟨a1,b1,e1⟩:=eB (X:=mfW) (x:=(mwK 0).data.toList) (k:=0) (by decide) P.d (cB (mwK 1).data.toList P.v++(cB (mwK 2).data.toList P.o++(cB (mwK 3).data.toList P.p++[]))) [[],[],[],[]] 0 (Nat.le_refl _) (by decide) h1;rw [e1];obtain ⟨a2,b2,e2⟩:=eB (X:=mfW) (x:=(mwK 1).data.toList) (k:=1) (by decide) P.v (cB (mwK 2).data.toList P.o++(cB (mwK 3).data.toList P.p++[])) [P.d,[],[],[]] a1 (by omega) (by simp) h2;rw [show ([[],[],[],[]]:List (List Dp)).set 0 (([[],[],[],[]]:List (List Dp)).getD 0 []++P.d)=[P.d,[],[],[]] from rfl,e2];obtain ⟨a3,b3,e3⟩:=eB (X:=mfW) (x:=(mwK 2).data.toList) (k:=2) (by decide) P.o (cB (mwK 3).data.toList P.p++[]) [P.d,P.v,[],[]] a2 (by omega) (by simp) h3;rw [show ([P.d,[],[],[]]:List (List Dp)).set 1 (([P.d,[],[],[]]:List (List Dp)).getD 1 []++P.v)=[P.d,P.v,[],[]] from rfl,e3]
 obtain ⟨a4,b4,e4⟩:=eB (X:=mfW) (x:=(mwK 3).data.toList) (k:=3) (by decide) P.p [] [P.d,P.v,P.o,[]] a3 (by omega) (by simp) h4;rw [show ([P.d,P.v,[],[]]:List (List Dp)).set 2 (([P.d,P.v,[],[]]:List (List Dp)).getD 2 []++P.o)=[P.d,P.v,P.o,[]] from rfl,e4];rfl
theorem FW {P:Mn} (h:aL P=true):uG (aF P)=0∧zL (aF P)=P:=by
 have hw:=h;unfold aL at h;rw [Bool.and_eq_true,decide_eq_true_eq] at h;obtain ⟨hs,hl⟩:=h;have ht:aF P=⟨(jG P).toArray⟩:=by unfold aF;rw [if_pos hw]
 have hsc:Sc.cZ (aF P).data.toList [] [] []= .ok (mnL P):=by
  have:=Sc.jY (mnL P) [] (SX hs)
  rw [OC hs] at this;rw [ht]
  simpa using this
 have hz:¬ ((4096:Int)<((aF P).size:Int)):=by
  rw [ht]
  have:(⟨(jG P).toArray⟩:ByteArray).size=(jG P).length:=by show (jG P).toArray.size=_;simp
  rw [this];omega
 have hE:Sc.nJ (aF P) 4096=0:=by unfold Sc.nJ;rw [if_neg hz,hsc];rfl
 have hL:Sc.gU (aF P) 4096=mnL P:=by unfold Sc.gU;rw [if_neg hz,hsc];rfl
 have hle:oY (mnL P)=0:=by
  unfold mnL oY;simp only [if_true];rw [FV hs]
 have hlp:oZ (mnL P)=P:=by
  unfold mnL oZ
  simp only
  rw [FV hs];rfl
 unfold uG zL;rw [hE,hL,hle,hlp,hw];exact ⟨rfl,rfl⟩
theorem SY {P Q:Mn} (hp:aL P=true) (hq:aL Q=true):aF P=aF Q↔P=Q:=by
 constructor
 · intro h
   rw [←(FW hp).2,←(FW hq).2,h]
 · rintro rfl
   rfl
theorem SZ (p q r p' q' r':Int) (w:World):(Op.equalIn 9999 52 (.agg #[.int .i64 p,.int .i64 q,.int .i64 r]) (.agg #[.int .i64 p',.int .i64 q',.int .i64 r'])).run Tryz.prog w= .ok (decide (p=p')&&decide (q=q')&&decide (r=r')) w:=by
 have u3:=Tryz.underlying3;have a3:=Tryz.isAgg3;have z3:=Tryz.sizeOf3;rw [show (9999:Nat)=9998+1 from rfl,run_equalIn_agg w 9998 52 _ _ (by kernel_rfl) (by kernel_rfl)];simp only [Program.fieldsOf,Tryz.underlying52]
 by_cases h1:p=p'
 · by_cases h2:q=q'
   · by_cases h3:r=r'
     · subst h1 h2 h3;go_simp
     · subst h1 h2;simp only [h3,decide_false,Bool.and_false];go_simp
   · subst h1;simp only [h2,decide_false,Bool.and_false,Bool.false_and];go_simp
 · simp only [h1,decide_false,Bool.false_and];go_simp
def OD (p q:Pn):Bool:=decide (p.nm.toList=q.nm.toList)&&(decide (p.a=q.a)&&decide (p.b=q.b)&&decide (p.c=q.c))
theorem zM {p q:Pn}:OD p q=true↔p=q:=by
 obtain ⟨s,a,b,c⟩:=p;obtain ⟨s',a',b',c'⟩:=q;unfold OD;simp only [Bool.and_eq_true,decide_eq_true_eq,Pn.mk.injEq];exact ⟨fun ⟨h1,⟨h2,h3⟩,h4⟩=>⟨Sc.aQ h1,h2,h3,h4⟩,fun ⟨h1,h2,h3,h4⟩=>⟨by rw [h1],⟨h2,h3⟩,h4⟩⟩
theorem QU (op:BinOp) (x y:Operand) (xs ys:Array Value) (w:World):(eqGuard op 129 x y (.agg xs) (.agg ys)).run Tryz.prog w= .ok () w:=run_eqGuard_agg w op 129 x y xs ys (by kernel_rfl)
theorem TT (p q:Pn) (w:World):(binOp .neq 129 (.agg #[.string p.nm,.int .i64 p.a,.int .i64 p.b,.int .i64 p.c]) (.agg #[.string q.nm,.int .i64 q.a,.int .i64 q.b,.int .i64 q.c])).run Tryz.prog w= .ok (.bool (!(OD p q))) w:=by
 obtain ⟨s,a,b,c⟩:=p;obtain ⟨s',a',b',c'⟩:=q;have av:=Tryz.isAgg52;have zv:=Tryz.sizeOf52;have u9:=Tryz.underlying9;have a9:=Tryz.isAgg9;have z9:=Tryz.sizeOf9;have h1:=SZ a b c a' b' c' w;rw [run_neq_struct,show (10000:Nat)=9999+1 from rfl,run_equalIn_agg w 9999 129 _ _ (by kernel_rfl) (by kernel_rfl)];simp only [Program.fieldsOf,Tryz.underlying129];unfold OD
 simp only
 by_cases hs:s.toList=s'.toList
 · obtain rfl:=Sc.aQ hs
   by_cases hv:a=a'∧b=b'∧c=c'
   · obtain ⟨rfl,rfl,rfl⟩:=hv
     go_simp
   · have hx:(decide (a=a')&&decide (b=b')&&decide (c=c'))=false:=by
      rw [Bool.eq_false_iff];intro e;simp only [Bool.and_eq_true,decide_eq_true_eq] at e;exact hv ⟨e.1.1,e.1.2,e.2⟩
     rw [hx];go_simp;intro e1 e2 e3;exact hv ⟨e1,e2,e3⟩
 · generalize (decide (a=a')&&decide (b=b')&&decide (c=c'))=xv at*
   simp only [hs,decide_false,Bool.false_and];go_simp
end Go.Proofs.YtlmpiohbmlddiaaGreatDoor
namespace Go.Proofs.YtlmpiohbmlddiaaGreatDoor.Lo
open Go.RowKit
open Sc (KeepP aB aH Bs ba WordsAt)
set_option maxRecDepth 100000
structure NV where
 nd:Nd
 vc:Value
 ve:Value
def pnC (p:Pn):List Value:=[.string p.nm,.int .i64 p.a,.int .i64 p.b,.int .i64 p.c]
def egC (e:Eg):List Value:=[.string e.lb,.int .i64 e.to]
def ndC (x:NV):List Value:=[.string x.nd.nm,.int .i64 x.nd.a,.int .i64 x.nd.b,.int .i64 x.nd.c,x.vc,x.ve]
def OwnP (w:World) (B:Nat) (v:Value) (L:List Pn):Prop:=w.ownsRow B 129 4 v L.length (L.flatMap pnC)
def OwnE (w:World) (B:Nat) (v:Value) (L:List Eg):Prop:=w.ownsRow B 62 2 v L.length (L.flatMap egC)
def RA (w:World) (B:Nat) (v:Value) (all:List NV):Prop:=
 w.ownsRow B 60 6 v all.length (all.flatMap ndC)∧∀ x ∈ all,OwnP w B x.vc x.nd.cx∧OwnE w B x.ve x.nd.ed
def mJ (f:Nd→Nd):List Nd→List Nd
 |[]=>[]
 |[l]=>[f l]
 |x::y::r=>x::mJ f (y::r)
theorem eJ (f:Nd→Nd) (l:Nd):∀ dn:List Nd,mJ f (dn++[l])=dn++[f l]
 |[]=>rfl
 |[x]=>rfl
 |x::y::r=>by
  have:=eJ f l (y::r)
  simp only [List.cons_append] at this ⊢;unfold mJ;rw [this]
def OE (p:Pn) (n:Nd):Nd:=⟨n.nm,n.a,n.b,n.c,n.cx++[p],n.ed⟩
def OG (e:Eg) (n:Nd):Nd:=⟨n.nm,n.a,n.b,n.c,n.cx,n.ed++[e]⟩
def OH (st:List Nd):List Eg:=match st.getLast? with
 |some n=>n.ed
 |none=>[]
theorem rO (dn:List Nd) (l:Nd):OH (dn++[l])=l.ed:=by unfold OH;simp
def nd0:Nd:=⟨⟨#[]⟩,0,0,0,[],[]⟩
def OI (st:List Nd) (ws:List Bs):Option (List Nd):=if ws=[] then some (st++[nd0]) else none
def DI (st:List Nd) (ws:List Bs):Option (List Nd):=if (mG ws).2=true then some (st++[⟨(mG ws).1.nm,(mG ws).1.a,(mG ws).1.b,(mG ws).1.c,[],[]⟩]) else none
def OJ (st:List Nd) (ws:List Bs):Option (List Nd):=if (mG ws).2=true∧OH st=[] then some (mJ (OE (mG ws).1) st) else none
def DJ (st:List Nd) (ws:List Bs):Option (List Nd):=if (CZ ws).2=true then some (mJ (OG (CZ ws).1) st) else none
end Go.Proofs.YtlmpiohbmlddiaaGreatDoor.Lo
namespace Go.Proofs.YtlmpiohbmlddiaaGreatDoor.Lo
open Go.RowKit
open Sc (KeepP aB aH Bs ba WordsAt)
set_option maxRecDepth 100000
open Sc (KeepP aB aH Bs ba WordsAt LinesAt isL)
def oH:Bs:=[114,111,111,116]
def FX:Bs:=[110,111,100,101]
def OK:Bs:=[119,105,116,104]
def wTo:Bs:=[116,111]
def jH (st:List Nd) (x:Bs) (ws:List Bs):Option (List Nd):=
 if x=oH then (if st=[] then OI st ws else none)
 else if st=[] then none
 else if x=FX then DI st ws else if x=OK then OJ st ws else if x=wTo then DJ st ws else none
def dD:List Nd→List (List Bs)→Option (List Nd)
 |st,[]=>some st
 |_,[]::_=>none
 |st,(x::ws)::r=>match jH st x ws with
  |some st'=>dD st' r
  |none=>none
def uH:Bs:=[108,111,99,107]
def OL:List (List Bs)→Option (List Nd)
 |[]=>none
 |h::r=>if h=[uH] then dD [] r else none
end Go.Proofs.YtlmpiohbmlddiaaGreatDoor.Lo
namespace Go.Proofs.YtlmpiohbmlddiaaGreatDoor.Lo
open Go.RowKit
open Sc (KeepP aB aH Bs ba WordsAt LinesAt isL)
set_option maxRecDepth 100000
open Sc (KeepP aB aH Bs ba WordsAt LinesAt isL isW aM bK)
open Sc (Bs ba isW isL wB bK aM aK)
theorem pD {α β:Type} {f:α→List β} {k:Nat} (hf:∀ x,(f x).length=k):∀ (L:List α) (i c:Nat) (hi:i<L.length),c<k→(L.flatMap f)[i*k+c]? =(f L[i])[c]?
 |x::r,0,c,_,hc=>by
  rw [List.flatMap_cons,Nat.zero_mul,Nat.zero_add,List.getElem?_append_left (by rw [hf];exact hc)];rfl
 |x::r,i+1,c,hi,hc=>by
  have hi':i<r.length:=by simpa using hi
  have e:(i+1)*k+c=k+(i*k+c):=by rw [Nat.succ_mul];omega
  rw [List.flatMap_cons,e,List.getElem?_append_right (by rw [hf];omega),hf,Nat.add_sub_cancel_left,pD hf r i c hi' hc];rfl
theorem OwnP.at {w:World} {B:Nat} {v:Value} {L:List Pn} (h:OwnP w B v L):PinsAt w v L:=by
 have h0:=h
 rcases h.2 with ⟨rfl,hn⟩|⟨g,cap,cur,rfl,hB,hg,hc,_⟩
 · exact ⟨none,0,by rw [hn],by omega,Or.inl (List.eq_nil_of_length_eq_zero hn)⟩
 · refine ⟨_,cap,rfl,hc,Or.inr ⟨g,0,rfl,(Array.getElem?_eq_some_iff.1 hg).1,fun i hi=>⟨?_,(Array.getElem?_eq_some_iff.1 hg).1⟩⟩⟩
   have q:∀ c,c<4→w.cell? ⟨g,0+i*4+c,none⟩=(pnC L[i])[c]? :=fun c hc=>by
    rw [Nat.zero_add,World.ownsRow.cellAt h0 (i*4+c) (by omega)];exact pD (f:=pnC) (k:=4) (fun _=>rfl) L i c hi hc
   exact ⟨q 0 (by decide),q 1 (by decide),q 2 (by decide),q 3 (by decide)⟩
theorem OwnE.at {w:World} {B:Nat} {v:Value} {L:List Eg} (h:OwnE w B v L):EdgesAt w v L:=by
 have h0:=h
 rcases h.2 with ⟨rfl,hn⟩|⟨g,cap,cur,rfl,hB,hg,hc,_⟩
 · exact ⟨none,0,by rw [hn],by omega,Or.inl (List.eq_nil_of_length_eq_zero hn)⟩
 · refine ⟨_,cap,rfl,hc,Or.inr ⟨g,0,rfl,(Array.getElem?_eq_some_iff.1 hg).1,fun i hi=>⟨?_,(Array.getElem?_eq_some_iff.1 hg).1⟩⟩⟩
   have q:∀ c,c<2→w.cell? ⟨g,0+i*2+c,none⟩=(egC L[i])[c]? :=fun c hc=>by
    rw [Nat.zero_add,World.ownsRow.cellAt h0 (i*2+c) (by omega)];exact pD (f:=egC) (k:=2) (fun _=>rfl) L i c hi hc
   exact ⟨q 0 (by decide),q 1 (by decide)⟩
theorem RA.at {w:World} {B:Nat} {v:Value} {all:List NV} (h:RA w B v all):NodesAt w v (all.map NV.nd):=by
 have h0:=h.1
 rcases h.1.2 with ⟨rfl,hn⟩|⟨g,cap,cur,rfl,hB,hg,hc,_⟩
 · have:all=[]:=List.eq_nil_of_length_eq_zero hn
   subst this;exact ⟨none,0,rfl,Nat.le_refl _,Or.inl rfl⟩
 · refine ⟨_,cap,by rw [List.length_map],by rw [List.length_map];exact hc,Or.inr ⟨g,0,rfl,(Array.getElem?_eq_some_iff.1 hg).1,fun i hi=> ?_⟩⟩
   have hi':i<all.length:=by simpa using hi
   have q:∀ c,c<6→w.cell? ⟨g,0+i*6+c,none⟩=(ndC all[i])[c]? :=fun c hc=>by
    rw [Nat.zero_add,World.ownsRow.cellAt h0 (i*6+c) (by omega)];exact pD (f:=ndC) (k:=6) (fun _=>rfl) all i c hi' hc
   have hm:=h.2 _ (List.getElem_mem hi');rw [List.getElem_map];exact ⟨all[i].vc,all[i].ve,⟨q 0 (by decide),q 1 (by decide),q 2 (by decide),q 3 (by decide),q 4 (by decide),q 5 (by decide)⟩,⟨hm.1.at,hm.2.at⟩,(Array.getElem?_eq_some_iff.1 hg).1⟩
def wD (t:ByteArray):Option (List Nd):=if Sc.nJ t 1048576=0 then (match OL (Sc.gU t 1048576) with
    |some st=>if dI st=true then some st else none
    |none=>none) else none
theorem zN {t:ByteArray} (h:Sc.nJ t 1048576=0):(Sc.gU t 1048576).all isL=true∧aM (Sc.gU t 1048576)=t.data.toList∧t.size≤1048576:=by
 unfold Sc.nJ at h;unfold Sc.gU
 split at h
 · cases h
 · rename_i hs
   rw [if_neg hs];cases hr:Sc.cZ t.data.toList [] [] [] with
   |error n=>rw [hr] at h;cases h
   |ok L=>
    obtain ⟨h1,h2⟩:=Sc.jX _ _ _ _ _ hr rfl rfl rfl;refine ⟨h1,?_,by omega⟩;show aM L=_
    simpa [Sc.uS,aM] using h2
def rP:List Nd→List (List Bs)
 |[]=>[]
 |n::r=>[oH]::(cJ n++dR r)
theorem rQ {st:List Nd} (h:st≠[]):gZ st=[uH]::rP st:=by
 cases st with
 |nil=>exact absurd rfl h
 |cons n r=>rfl
theorem nS {dn:List Nd} (h:dn≠[]) (n:Nd):rP (dn++[n])=rP dn++(gD n::cJ n):=by
 cases dn with
 |nil=>exact absurd rfl h
 |cons m r=>
  show [oH]::(cJ m++dR (r++[n]))=[oH]::(cJ m++dR r)++(gD n::cJ n);rw [rI]
  simp
theorem zO (dn:List Nd) {l l':Nd} {x:List Bs} (hn:gD l'=gD l) (hl:cJ l'=cJ l++[x]):rP (dn++[l'])=rP (dn++[l])++[x]:=by
 by_cases h:dn=[]
 · subst h
   show [oH]::(cJ l'++[])=[oH]::(cJ l++[])++[x];rw [hl]
   simp
 · rw [nS h,nS h,hn,hl]
   simp
theorem FY {st:List Nd} (h:st≠[]):∃ dn l,st=dn++[l]:=⟨st.dropLast,st.getLast h,(List.dropLast_concat_getLast h).symm⟩
theorem FZ {ws:List Bs} (h:(mG ws).2=true):ws=[(mG ws).1.nm.data.toList,bsV (mG ws).1.a (mG ws).1.b (mG ws).1.c]:=by
 match ws,h with
 |[x,y],h=>
  have h1:okP (ba y)=true:=h;have h2:=(pR h1).2;show [x,y]=[(ba x).data.toList,bsV (oJ (ba y)) (oK (ba y)) (oL (ba y))];unfold bsV;rw [←h2,Sc.cR,Sc.cR]
theorem QV {ws:List Bs} (h:(CZ ws).2=true):ws=[(CZ ws).1.lb.data.toList,Lib.itoa (CZ ws).1.to]:=by
 match ws,h with
 |[x,y],h=>
  have h1:Sc.vV y 127=true:=h;show [x,y]=[(ba x).data.toList,Lib.itoa (Sc.vU y 127)];cases hr:Sc.rC y with
  |none=>rw [(Sc.NQ hr 127).2] at h1;cases h1
  |some n=>
   by_cases hm:(n:Int)≤127
   · rw [(Sc.NR hr hm).1,Sc.cR,fM (by omega),(Sc.NP hr).1]
     simp
   · rw [(Sc.QQ hr hm).2] at h1;cases h1
theorem OM {st st':List Nd} {x:Bs} {ws:List Bs} (h:jH st x ws=some st'):rP st'=rP st++[x::ws]∧st'≠[]:=by
 unfold jH at h
 split at h
 · rename_i hx
   split at h
   · rename_i hs
     unfold OI at h
     split at h
     · rename_i hw
       cases h;subst hs hx hw;exact ⟨rfl,by simp⟩
     · cases h
   · cases h
 · split at h
   · cases h
   · rename_i hs
     split at h
     · rename_i hx
       unfold DI at h
       split at h
       · rename_i hp
         cases h;refine ⟨?_,by simp⟩;rw [nS hs,hx]
         have:=FZ hp
         show rP st++([FX,_,_]::[])=_;rw [←this]
       · cases h
     · split at h
       · rename_i hx
         unfold OJ at h
         split at h
         · rename_i hp
           cases h;obtain ⟨dn,l,rfl⟩:=FY hs;rw [rO] at hp;rw [eJ];refine ⟨?_,by simp⟩;refine zO dn (l:=l) rfl ?_
           have:=FZ hp.1
           show (l.cx++[(mG ws).1]).map jC++l.ed.map jJ=(l.cx.map jC++l.ed.map jJ)++[x::ws];rw [hp.2,hx,this];simp only [List.map_append,List.map_nil,List.append_nil,List.map_cons];rw [←this];show _++[jC _]=_;unfold jC;rw [←this];rfl
         · cases h
       · split at h
         · rename_i hx
           unfold DJ at h
           split at h
           · rename_i hp
             cases h;obtain ⟨dn,l,rfl⟩:=FY hs;rw [eJ];refine ⟨?_,by simp⟩;refine zO dn (l:=l) rfl ?_
             have:=QV hp
             show l.cx.map jC++(l.ed++[(CZ ws).1]).map jJ=(l.cx.map jC++l.ed.map jJ)++[x::ws];rw [hx];simp only [List.map_append,List.map_nil,List.map_cons,List.append_assoc];unfold jJ;rw [←this];rfl
           · cases h
         · cases h
theorem zP:∀ {L:List (List Bs)} {st st':List Nd},dD st L=some st'→rP st'=rP st++L
 |[],st,st',h=>by cases h;simp
 |[]::L,st,st',h=>by cases h
 |(x::ws)::L,st,st',h=>by
  unfold dD at h;cases ht:jH st x ws with
  |none=>rw [ht] at h;cases h
  |some s=>
   rw [ht] at h;rw [zP h,(OM ht).1,List.append_assoc];rfl
theorem ON {t:ByteArray} {G:List Nd} (h:wD t=some G):dI G=true∧iG G=t:=by
 unfold wD at h
 split at h
 · rename_i hE
   obtain ⟨f1,f2,f3⟩:=zN hE;cases hr:OL (Sc.gU t 1048576) with
   |none=>rw [hr] at h;cases h
   |some st=>
    rw [hr] at h
    simp only at h
    split at h
    · rename_i hm
      obtain rfl:st=G:=Option.some.inj h;refine ⟨hm,?_⟩;have hne:st≠[]:=by rintro rfl;cases hm
      have hL:gZ st=Sc.gU t 1048576:=by
       rw [rQ hne];cases hl:Sc.gU t 1048576 with
       |nil=>rw [hl] at hr;cases hr
       |cons a r=>
        rw [hl] at hr;have hr':(if a=[uH] then dD [] r else none)=some st:=hr
        by_cases ha:a=[uH]
        · rw [if_pos ha] at hr'
          rw [zP hr',ha];rfl
        · rw [if_neg ha] at hr'
          cases hr'
      unfold iG;rw [hL,f2,Sc.hF]
    · cases h
 · cases h
end Go.Proofs.YtlmpiohbmlddiaaGreatDoor.Lo
namespace Go.Proofs.YtlmpiohbmlddiaaGreatDoor.Lo
open Go.RowKit
open Sc (Bs ba isW isL wB bK aM aK)
set_option maxRecDepth 100000
open Sc (KeepP aB aH Bs ba aM)
open Sc (KeepP aB aH Bs ba)
open Sc (KeepP aB aH Bs ba aJ bR bP)
open Sc (KeepP aB aH Bs ba bR bP)
open Go.ChangeShapes Go.WideShapes Go.ChangeAt Go.RowKit
theorem kH:∀ (L M:List (List Bs)) {st s:List Nd},dD st L=some s→dD st (L++M)=dD s M
 |[],M,st,s,h=>by cases h;rfl
 |[]::L,M,st,s,h=>by cases h
 |(y::vs)::L,M,st,s,h=>by
  simp only [List.cons_append,dD] at h ⊢;cases ht:jH st y vs with
  |none=>rw [ht] at h;cases h
  |some s'=>rw [ht] at h;exact kH L M h
theorem GA {p:Pn} (h:aZ p.a p.b p.c=true):mG [p.nm.data.toList,bsV p.a p.b p.c]=(p,true):=by
 obtain ⟨h0,h1,h2,h3⟩:=mV h;show ((⟨ba p.nm.data.toList,oJ (ba (bsV p.a p.b p.c)),oK (ba (bsV p.a p.b p.c)),oL (ba (bsV p.a p.b p.c))⟩:Pn),okP (ba (bsV p.a p.b p.c)))=(p,true);unfold bsV;rw [Sc.hF,Sc.hF,h0,h1,h2,h3]
theorem QW {e:Eg} (h0:0≤e.to) (h1:e.to≤127):CZ [e.lb.data.toList,Lib.itoa e.to]=(e,true):=by
 have hr:Sc.rC (Lib.itoa e.to)=some e.to.toNat:=by rw [fM h0];exact Sc.QP (by omega)
 obtain ⟨q1,q2⟩:=Sc.NR (most:=127) hr (by omega);show ((⟨ba e.lb.data.toList,Sc.vU (Lib.itoa e.to) 127⟩:Eg),Sc.vV (Lib.itoa e.to) 127)=(e,true);rw [q1,q2,Sc.hF,Int.toNat_of_nonneg h0]
theorem uI (dn:List Nd):∀ (P:List Pn) (l:Nd),l.ed=[]→(∀ p ∈ P,aZ p.a p.b p.c=true)→dD (dn++[l]) (P.map jC)=some (dn++[⟨l.nm,l.a,l.b,l.c,l.cx++P,[]⟩])
 |[],l,he,_=>by
  show some (dn++[l])=_;rw [List.append_nil,←he]
 |p::P,l,he,h=>by
  have h1:=GA (h p (by simp))
  have ht:jH (dn++[l]) OK [p.nm.data.toList,bsV p.a p.b p.c]=some (dn++[OE p l]):=by
   unfold jH;rw [if_neg (by decide),if_neg (by simp),if_neg (by decide),if_pos rfl];unfold OJ;rw [h1,if_pos ⟨rfl,by rw [rO,he]⟩,eJ]
  show dD (dn++[l]) ((OK::[p.nm.data.toList,bsV p.a p.b p.c])::P.map jC)=_;unfold dD;rw [ht];show dD (dn++[OE p l]) (P.map jC)=_;rw [uI dn P (OE p l) he fun q hq=>h q (by simp [hq])];simp [OE]
theorem rR (dn:List Nd):∀ (P:List Eg) (l:Nd),(∀ e ∈ P,0≤e.to∧e.to≤127)→dD (dn++[l]) (P.map jJ)=some (dn++[⟨l.nm,l.a,l.b,l.c,l.cx,l.ed++P⟩])
 |[],l,_=>by
  show some (dn++[l])=_;rw [List.append_nil]
 |p::P,l,h=>by
  have h1:=QW (h p (by simp)).1 (h p (by simp)).2
  have ht:jH (dn++[l]) wTo [p.lb.data.toList,Lib.itoa p.to]=some (dn++[OG p l]):=by
   unfold jH;rw [if_neg (by decide),if_neg (by simp),if_neg (by decide),if_neg (by decide),if_pos rfl];unfold DJ;rw [h1,if_pos rfl,eJ]
  show dD (dn++[l]) ((wTo::[p.lb.data.toList,Lib.itoa p.to])::P.map jJ)=_;unfold dD;rw [ht];show dD (dn++[OG p l]) (P.map jJ)=_;rw [rR dn P (OG p l) fun q hq=>h q (by simp [hq])];simp [OG]
def TA (n:Nd):Prop:=(∀ p ∈ n.cx,aZ p.a p.b p.c=true)∧∀ e ∈ n.ed,0≤e.to∧e.to≤127
theorem uJ (dn:List Nd) {n:Nd} (h:TA n):dD (dn++[⟨n.nm,n.a,n.b,n.c,[],[]⟩]) (cJ n)=some (dn++[n]):=by
 unfold cJ;rw [kH _ _ (uI dn n.cx ⟨n.nm,n.a,n.b,n.c,[],[]⟩ rfl h.1),rR dn n.ed _ h.2];rfl
theorem uK:∀ (r dn:List Nd),dn≠[]→(∀ n ∈ r,TA n∧aZ n.a n.b n.c=true)→dD dn (dR r)=some (dn++r)
 |[],dn,_,_=>by
  show some dn=_;rw [List.append_nil]
 |n::r,dn,hd,h=>by
  obtain ⟨h1,h2⟩:=h n (by simp);have hp:=GA (p:=⟨n.nm,n.a,n.b,n.c⟩) h2
  have ht:jH dn FX [n.nm.data.toList,bsV n.a n.b n.c]=some (dn++[⟨n.nm,n.a,n.b,n.c,[],[]⟩]):=by
   unfold jH;rw [if_neg (by decide),if_neg hd,if_pos rfl];unfold DI;rw [hp,if_pos rfl]
  have e:dR (n::r)=(FX::[n.nm.data.toList,bsV n.a n.b n.c])::(cJ n++dR r):=by simp [dR];rfl
  rw [e];unfold dD;rw [ht];show dD (dn++[⟨n.nm,n.a,n.b,n.c,[],[]⟩]) (cJ n++dR r)=_;rw [kH _ _ (uJ dn h1),uK r (dn++[n]) (by simp) fun m hm=>h m (by simp [hm])]
  simp
theorem zQ {G:List Nd} (h:dI G=true):wD (iG G)=some G:=by
 obtain ⟨k1,k2⟩:=uB h;obtain ⟨g1,g2,g3,g4⟩:=lF h;have hsz:(iG G).size≤1048576:=by unfold iG;rw [Sc.uU];exact k2
 have hsc:Sc.cZ (iG G).data.toList [] [] []= .ok (gZ G):=by
  unfold iG;rw [Sc.cR,Sc.jY _ _ k1];rfl
 have hns:¬ (1048576:Int)<((iG G).size:Int):=by omega
 have hE:Sc.nJ (iG G) 1048576=0:=by unfold Sc.nJ;rw [if_neg hns,hsc];rfl
 have hL:Sc.gU (iG G) 1048576=gZ G:=by unfold Sc.gU;rw [if_neg hns,hsc];rfl
 have hR:OL (gZ G)=some G:=by
  cases G with
  |nil=>cases h
  |cons n r=>
   rw [rQ (by simp)];show (if [uH]=[uH] then dD [] (rP (n::r)) else none)=_;rw [if_pos rfl]
   have hok:∀ m ∈ n::r,TA m:=fun m hm=>by
    obtain ⟨a1,a2⟩:=g3 m hm;refine ⟨fun p hp=>(a1.2 p hp).2,fun e he=> ?_⟩;have h':=h;unfold dI at h';simp only [Bool.and_eq_true,decide_eq_true_eq,List.all_eq_true] at h'
    have:=h'.2 m hm
    unfold cC at this;simp only [Bool.and_eq_true,decide_eq_true_eq] at this;obtain ⟨c1,c2,c3⟩:=rL this.2 e he;omega
   have hn0:(⟨n.nm,n.a,n.b,n.c,[],[]⟩:Nd)=nd0:=by
    have h':=h;unfold dI fJ at h';simp only [Bool.and_eq_true,decide_eq_true_eq] at h';obtain ⟨⟨⟨_,⟨q1,q2,q3,q4⟩,_⟩,_⟩,_⟩:=h';have q5:n.nm=⟨#[]⟩:=by rw [←Sc.hF n.nm,List.eq_nil_of_length_eq_zero (l:=n.nm.data.toList) (by rw [Sc.aJ];exact q1)];rfl
    rw [q2,q3,q4,q5];rfl
   show dD [] ([oH]::(cJ n++dR r))=_;unfold dD;rw [show jH [] oH []=some ([]++[nd0]) from rfl];show dD ([]++[nd0]) (cJ n++dR r)=_
   rw [←hn0,kH _ _ (uJ [] (hok n (by simp))),uK r ([]++[n]) (by simp) fun m hm=>⟨hok m (by simp [hm]),by
    obtain ⟨i,hi,rfl⟩:=List.getElem_of_mem hm
    have:=g4 (i+1) (by simpa using hi) (by omega)
    simpa using this.2⟩]
   simp
 unfold wD;rw [if_pos hE,hL,hR]
 simp only
 rw [if_pos h]
noncomputable def eqB {α:Type} (x y:α):Bool:= @decide (x=y) (Classical.propDecidable _)
theorem aO {α:Type} {x y:α} (h:x=y):eqB x y=true:=by unfold eqB;exact @decide_eq_true _ (Classical.propDecidable _) h
theorem bJ {α:Type} {x y:α} (h:x≠y):eqB x y=false:=by unfold eqB;exact @decide_eq_false _ (Classical.propDecidable _) h
def OO (p q:Eg):Bool:=decide (p.lb.toList=q.lb.toList)&&decide (p.to=q.to)
theorem zR {p q:Eg}:OO p q=true↔p=q:=by
 obtain ⟨s,a⟩:=p;obtain ⟨s',a'⟩:=q;unfold OO;simp only [Bool.and_eq_true,decide_eq_true_eq,Eg.mk.injEq];exact ⟨fun ⟨h1,h2⟩=>⟨aQ h1,h2⟩,fun ⟨h1,h2⟩=>⟨by rw [h1],h2⟩⟩
theorem QX (op:BinOp) (x y:Operand) (xs ys:Array Value) (w:World):(eqGuard op 62 x y (.agg xs) (.agg ys)).run Tryz.prog w= .ok () w:=run_eqGuard_agg w op 62 x y xs ys (by kernel_rfl)
theorem TU (p q:Eg) (w:World):(binOp .neq 62 (.agg #[.string p.lb,.int .i64 p.to]) (.agg #[.string q.lb,.int .i64 q.to])).run Tryz.prog w= .ok (.bool (!(OO p q))) w:=by
 obtain ⟨s,a⟩:=p;obtain ⟨s',a'⟩:=q;have u3:=Tryz.underlying3;have a3:=Tryz.isAgg3;have z3:=Tryz.sizeOf3;have u9:=Tryz.underlying9;have a9:=Tryz.isAgg9;have z9:=Tryz.sizeOf9;rw [run_neq_struct,show (10000:Nat)=9999+1 from rfl,run_equalIn_agg w 9999 62 _ _ (by kernel_rfl) (by kernel_rfl)];simp only [Program.fieldsOf,Tryz.underlying62];unfold OO
 simp only
 by_cases hs:s.toList=s'.toList
 · obtain rfl:=aQ hs
   by_cases ha:a=a'
   · subst ha
     go_simp
   · simp only [ha,decide_false,Bool.and_false]
     go_simp
 · simp only [hs,decide_false,Bool.false_and]
   go_simp
end Go.Proofs.YtlmpiohbmlddiaaGreatDoor.Lo
namespace Go.Proofs.YtlmpiohbmlddiaaGreatDoor.Lo
open Go.RowKit
open Sc (KeepP aB aH Bs ba aM bK aK bR bP)
set_option maxRecDepth 100000
open Sc (KeepP aB aH Bs ba bR bP)
def KX (w:World) (N M:Nat) (v u:Value) (x y:Nd) (vc ve uc ue:Value) (W:World):Prop:=
 (Below w.heap.size w W∧BxG W N v∧BxG W (N+1) u)∧(BxNd W M x vc ve∧BxNd W (M+1) y uc ue)∧(PinsAt W vc x.cx∧PinsAt W uc y.cx)∧EdgesAt W ve x.ed∧EdgesAt W ue y.ed
theorem TB (w:World) (N M:Nat) (v u:Value) (x y:Nd) (vc ve uc ue:Value):KeepP (KX w N M v u x y vc ve uc ue):=fun _ _ ⟨⟨h1,h2,h3⟩,⟨h4,h5⟩,⟨h6,h7⟩,h8,h9⟩ hb=>
 ⟨⟨aA h1 hb,eY _ _ _ _ h2 hb,eY _ _ _ _ h3 hb⟩,⟨iF _ _ _ _ _ _ h4 hb,iF _ _ _ _ _ _ h5 hb⟩,⟨h6.below hb,h7.below hb⟩,h8.below hb,h9.below hb⟩
theorem zS (g o:Nat) (p:Pn):KeepP fun W=>PnIn W g o p:=fun _ _ h hb=>h.below hb
theorem zV (g o:Nat) (p:Eg):KeepP fun W=>EgIn W g o p:=fun _ _ h hb=>h.below hb
theorem uL {W:World} {ad:Option Addr} {n cap:Nat} {L:List Pn} (h:PinsAt W (.slice ad n cap) L) {m:Nat} (hm:m<L.length):∃ g o,ad=some ⟨g,o,none⟩∧n≤cap∧PnIn W g (o+m*4) L[m]:=by
 obtain ⟨a1,c1,hv,hc,hl⟩:=h;cases hv
 rcases hl with rfl|⟨g,o,rfl,_,hs⟩
 · cases hm
 · exact ⟨g,o,rfl,hc,hs m hm⟩
theorem rS {W:World} {ad:Option Addr} {n cap:Nat} {L:List Eg} (h:EdgesAt W (.slice ad n cap) L) {m:Nat} (hm:m<L.length):∃ g o,ad=some ⟨g,o,none⟩∧n≤cap∧EgIn W g (o+m*2) L[m]:=by
 obtain ⟨a1,c1,hv,hc,hl⟩:=h;cases hv
 rcases hl with rfl|⟨g,o,rfl,_,hs⟩
 · cases hm
 · exact ⟨g,o,rfl,hc,hs m hm⟩
theorem QY {A C:List Nd} (h:A.length=C.length) (hj:∀ j (_:j<A.length) (h1:j<A.length) (h2:j<C.length),A[j]=C[j]):A=C:=List.ext_getElem h fun j h1 h2=>hj j h1 h1 h2
end Go.Proofs.YtlmpiohbmlddiaaGreatDoor.Lo
namespace Go.Proofs.YtlmpiohbmlddiaaGreatDoor
open Go.RowKit
set_option maxRecDepth 100000
set_option maxHeartbeats 1600000 in
theorem zW {P Q:Pg} {v1 v2 v3 u1 u2 u3:Value} {w:World} (hp:PgAt w P v1 v2 v3) (hq:PgAt w Q u1 u2 u3) (hd:P.d.length≤9223372036854775807) (he:P.p.length≤9223372036854775807) (ho:P.o.length≤9223372036854775807):
 Calls Tryz.prog 48 #[.agg #[.string P.nm,.int .i64 P.a,.int .i64 P.b,.int .i64 P.c,v1,v2,v3],.agg #[.string Q.nm,.int .i64 Q.a,.int .i64 Q.b,.int .i64 Q.c,u1,u2,u3]] w fun x w'=>x= .returned (.bool (eqB P Q))∧Below w.heap.size w w':=by
 have H1:Hid (∀ w1,Below w.heap.size w w1→Calls Tryz.prog 60 #[v1,u1] w1 fun e w'=>e= .returned (.bool (eqB P.d Q.d))∧Below w1.heap.size w1 w'):=fun w1 h=>eS (hp.1.below h) (hq.1.below h) hd
 have H2:Hid (∀ w1,Below w.heap.size w w1→Calls Tryz.prog 60 #[v2,u2] w1 fun e w'=>e= .returned (.bool (eqB P.p Q.p))∧Below w1.heap.size w1 w'):=fun w1 h=>eS (hp.2.1.below h) (hq.2.1.below h) he
 have H3:Hid (∀ w1,Below w.heap.size w w1→Calls Tryz.prog 60 #[v3,u3] w1 fun e w'=>e= .returned (.bool (eqB P.o Q.o))∧Below w1.heap.size w1 w'):=fun w1 h=>eS (hp.2.2.below h) (hq.2.2.below h) ho
 have HR:Hid (eqB P Q=(decide (P.nm.toList=Q.nm.toList)&&(decide (P.a=Q.a)&&decide (P.b=Q.b)&&decide (P.c=Q.c))&&eqB P.d Q.d&&eqB P.p Q.p&&eqB P.o Q.o)):=by
  refine vC ?_;obtain ⟨n,a,b,c,d,e,o⟩:=P;obtain ⟨n',a',b',c',d',e',o'⟩:=Q;simp only [Bool.and_eq_true,decide_eq_true_eq,cH,Pg.mk.injEq];exact ⟨fun ⟨h1,h2,h3,h4,h5,h6,h7⟩=>⟨⟨⟨⟨by rw [h1],⟨h2,h3⟩,h4⟩,h5⟩,h6⟩,h7⟩,fun ⟨⟨⟨⟨h1,⟨h2,h3⟩,h4⟩,h5⟩,h6⟩,h7⟩=>⟨aQ h1,h2,h3,h4,h5,h6,h7⟩⟩
 obtain ⟨a1,c1,rfl⟩:=hp.1.sl;obtain ⟨a2,c2,rfl⟩:=hp.2.1.sl;obtain ⟨a3,c3,rfl⟩:=hp.2.2.sl;obtain ⟨b1,d1,rfl⟩:=hq.1.sl;obtain ⟨b2,d2,rfl⟩:=hq.2.1.sl;obtain ⟨b3,d3,rfl⟩:=hq.2.2.sl;clear hp hq hd he ho;have hv:=SF P.a P.b P.c Q.a Q.b Q.c;have hgd:=kS;obtain ⟨n,a,b,c,d,e,o⟩:=P;obtain ⟨n',a',b',c',d',e',o'⟩:=Q
 simp only at*
 generalize eqB d d'=x1 at*;generalize eqB e e'=x2 at*;generalize eqB o o'=x3 at*;generalize (decide (a=a')&&decide (b=b')&&decide (c=c'))=xv at*;generalize d.length=l1 at*;generalize e.length=l2 at*;generalize o.length=l3 at*;generalize d'.length=m1 at*;generalize e'.length=m2 at*;generalize o'.length=m3 at*
 have HB:Hid (BxP ((w.alloc (.cells #[.string n,.int .i64 a,.int .i64 b,.int .i64 c,.slice a1 l1 c1,.slice a2 l2 c2,.slice a3 l3 c3] 54)).alloc (.cells #[.string n',.int .i64 a',.int .i64 b',.int .i64 c',.slice b1 m1 d1,.slice b2 m2 d2,.slice b3 m3 d3] 54)) w.heap.size n a b c (.slice a1 l1 c1) (.slice a2 l2 c2) (.slice a3 l3 c3)∧BxP ((w.alloc (.cells #[.string n,.int .i64 a,.int .i64 b,.int .i64 c,.slice a1 l1 c1,.slice a2 l2 c2,.slice a3 l3 c3] 54)).alloc (.cells #[.string n',.int .i64 a',.int .i64 b',.int .i64 c',.slice b1 m1 d1,.slice b2 m2 d2,.slice b3 m3 d3] 54)) (w.heap.size+1) n' a' b' c' (.slice b1 m1 d1) (.slice b2 m2 d2) (.slice b3 m3 d3)):=⟨gL _ _ _ _ _ _ _ _ _ _ (BxP.new rfl _ _ _ _ _ _ _) (aD _ _),BxP.new (by simp) _ _ _ _ _ _ _⟩
 have HK:Hid (KeepP fun w1=>BxP w1 w.heap.size n a b c (.slice a1 l1 c1) (.slice a2 l2 c2) (.slice a3 l3 c3)∧BxP w1 (w.heap.size+1) n' a' b' c' (.slice b1 m1 d1) (.slice b2 m2 d2) (.slice b3 m3 d3)):=(gL _ _ _ _ _ _ _ _).and (gL _ _ _ _ _ _ _ _);have t1:True:=trivial;have t2:True:=trivial
 by_cases hn:n.toList=n'.toList
 · cases xv
   · go_enter Tryz.func48,Tryz.ntmps48
     go_wp2
     go_ret;exact ⟨aC (by rw [HR.out];simp),aN _ _ _⟩
   · go_enter Tryz.func48,Tryz.ntmps48
     cases x1
     · go_wp2_with (go_at_call 60;refine (H1.out _ (aN _ _ _)).mono ?_;rintro x w1 ⟨rfl,ok⟩)
       go_ret;exact ⟨aC (by rw [HR.out];simp),aA (aN _ _ _) ok⟩
     · cases x2
       · go_wp2_with (first
          |(have _t:=t1;go_at_call 60;refine (H1.out _ (aN _ _ _)).mono ?_;rintro x w1 ⟨rfl,ok⟩;clear t1;have HB1:=aB (HK.out _ _ HB.out ok);obtain ⟨⟨p0,p1,p2,p3,p4,p5,p6,p7⟩,⟨q0,q1,q2,q3,q4,q5,q6,q7⟩⟩:=HB1.out)
          |(go_at_call 60;refine (H2.out _ (aA (aN _ _ _) ok)).mono ?_;rintro x w2 ⟨rfl,ok2⟩))
         go_ret;exact ⟨aC (by rw [HR.out];simp),aA (aA (aN _ _ _) ok) ok2⟩
       · go_wp2_with (first
          |(have _t:=t1;go_at_call 60;refine (H1.out _ (aN _ _ _)).mono ?_;rintro x w1 ⟨rfl,ok⟩;clear t1;have HB1:=aB (HK.out _ _ HB.out ok);obtain ⟨⟨p0,p1,p2,p3,p4,p5,p6,p7⟩,⟨q0,q1,q2,q3,q4,q5,q6,q7⟩⟩:=HB1.out)
          |(have _t:=t2;go_at_call 60;refine (H2.out _ (aA (aN _ _ _) ok)).mono ?_;rintro x w2 ⟨rfl,ok2⟩;clear t2;have HB2:=aB (HK.out _ _ HB1.out ok2);clear p0 p1 p2 p3 p4 p5 p6 p7 q0 q1 q2 q3 q4 q5 q6 q7;obtain ⟨⟨p0,p1,p2,p3,p4,p5,p6,p7⟩,⟨q0,q1,q2,q3,q4,q5,q6,q7⟩⟩:=HB2.out)
          |(go_at_call 60;refine (H3.out _ (aA (aA (aN _ _ _) ok) ok2)).mono ?_;rintro x w3 ⟨rfl,ok3⟩))
         go_ret;exact ⟨aC (by rw [HR.out];simp [hn]),aA (aA (aA (aN _ _ _) ok) ok2) ok3⟩
 · go_enter Tryz.func48,Tryz.ntmps48
   go_wp2
   go_ret;exact ⟨aC (by rw [HR.out];simp [hn]),aN _ _ _⟩
theorem JV:fY [[],[],[]]=true:=by
 unfold fY;refine @decide_eq_true _ (Classical.propDecidable _) ?_;have h:gS [[],[],[]]=[]:=rfl;rw [h];exact List.nodup_nil
end Go.Proofs.YtlmpiohbmlddiaaGreatDoor
