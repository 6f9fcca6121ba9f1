/- Pw1, Mf7, Mf6: their declarations that are needed, laid in one text, remarks and blanks left out. -/
import Derived.Test.YtmnhnofnlcbliaaGreatDoorMg22
namespace Go.Proofs.YtmnhnofnlcbliaaGreatDoor
open Go.RowKit
set_option maxRecDepth 100000
theorem qQ (x y:Sc.Bs) (r:List Sc.Bs) (sep:Sc.Bs):Lib.join (x::y::r) sep=x++sep++Lib.join (y::r) sep:=by
 rw [Lib.join_cons,Lib.join_cons];simp [Lib.joinTail]
theorem IW:∀ {A B:List Sc.Bs},A≠[]→B≠[]→Lib.join (A++B) [32]=Lib.join A [32]++[32]++Lib.join B [32]
 |[],_,h,_=>absurd rfl h
 |[x],[],_,h=>absurd rfl h
 |[x],y::r,_,_=>by
  show Lib.join (x::y::r) [32]=_;rw [qQ,Lib.join_one]
 |x::y::r,B,_,hb=>by
  have ih:=IW (A:=y::r) (B:=B) (by simp) hb;show Lib.join (x::y::(r++B)) [32]=_;rw [qQ,qQ,show y::(r++B)=(y::r)++B from rfl,ih]
  simp
def lV (s:Sc.Bs):Prop:=∃ ws:List Sc.Bs,ws≠[]∧ws.all Sc.isW=true∧Lib.join ws [32]=s
theorem gZ {s:Sc.Bs} (h:Sc.isW s=true):lV s:=⟨[s],by simp,by simp [h],Lib.join_one _ _⟩
theorem sA {s t:Sc.Bs} (hs:lV s) (ht:lV t):lV (s++[32]++t):=by
 obtain ⟨a,h1,h2,rfl⟩:=hs;obtain ⟨b,k1,k2,rfl⟩:=ht;exact ⟨a++b,by simp [h1],by rw [List.all_append,h2,k2];rfl,IW h1 k1⟩
theorem lB {a b c:Int} (h:bB a b c=true) (sg:Sc.Bs) (hs:sg.all Sc.wB=true):Sc.isW (sg++(aL a b c).data.toList)=true:=by
 unfold Sc.isW;rw [List.all_append,hs]
 have h1:(aL a b c).data.toList.all Sc.wB=true:=List.all_eq_true.2 fun x hx=>by
  unfold Sc.wB
  rcases lL h x hx with e|e<;>simp<;>omega
 rw [h1];have h2:=rM h
 have h3:(sg++(aL a b c).data.toList).isEmpty=false:=by
  rw [List.isEmpty_eq_false_iff];intro e
  have:=congrArg List.length e
  rw [List.length_append] at this;simp only [List.length_nil] at this;omega
 rw [h3];rfl
theorem AN {p:Int×Int} (h1:okR p.1) (h2:okR p.2):lV (spT p).data.toList:=by
 have m1:=(gQ h1.has).1;have m2:=(gQ h2.has).1;unfold spT iO
 split
 · exact gZ (lB m1 [] rfl)
 · split
   · exact gZ (by decide)
   · split
     · rw [bH];exact gZ (lB m2 [60,61] (by decide))
     · split
       · rw [bH];exact gZ (lB m1 [62,61] (by decide))
       · rw [bH,bH,bH]
         have:=sA (gZ (lB m1 [62,61] (by decide))) (gZ (lB m2 [60,61] (by decide)))
         simpa using this
theorem sY:∀ (A:Rg),A≠[]→(∀ p ∈ A,okR p.1∧okR p.2)→lV (dI A).data.toList
 |[],h,_=>absurd rfl h
 |[p],_,h=>by
  show lV (Lib.join [(spT p).data.toList] [32,124,124,32]);rw [Lib.join_one];exact AN (h p List.mem_cons_self).1 (h p List.mem_cons_self).2
 |p::q::r,_,h=>by
  have ih:lV (Lib.join ((q::r).map fun p=>(spT p).data.toList) [32,124,124,32]):=sY (q::r) (by simp) fun x hx=>h x (List.mem_cons_of_mem _ hx)
  have h1:=AN (h p List.mem_cons_self).1 (h p List.mem_cons_self).2;show lV (Lib.join ((spT p).data.toList::(spT q).data.toList::r.map fun p=>(spT p).data.toList) [32,124,124,32]);rw [qQ]
  have:=sA (sA h1 (gZ (s:=[124,124]) (by decide))) ih
  simpa using this
theorem sZ {L:List Sp} (h:bZ L=true):∃ ws:List Sc.Bs,ws≠[]∧ws.all Sc.isW=true∧Lib.join ws [32]=(prS L).data.toList∧EQ (iL (jnT ws))=0∧(nS (iL (jnT ws))).map spR=L:=by
 have h0:=h;unfold bZ at h;rw [Bool.and_eq_true,decide_eq_true_eq] at h;obtain ⟨A,rfl,hA,hl⟩:=tU.1 h.2;have hne:A≠[]:=by rintro rfl;simp at h
 obtain ⟨ws,w1,w2,w3⟩:=sY A hne fun p hp=>⟨(hA.ok p hp).1,(hA.ok p hp).2.1⟩
 have hj:jnT ws=dI A:=by
  unfold jnT;rw [w3]
 refine ⟨ws,w1,w2,?_,?_,?_⟩
 · unfold prS;rw [WZ hA];exact w3
 · rw [hj,zO hA hl];show nW A.length=0;unfold nW;rw [if_pos hl]
 · rw [hj,zO hA hl];show (KK A).map spR=_;rw [Ec hl]
noncomputable def rgW (L:List Sp):List Sc.Bs:=if h:bZ L=true then (sZ h).choose else []
theorem xB {L:List Sp} (h:bZ L=true):rgW L≠[]∧(rgW L).all Sc.isW=true∧Lib.join (rgW L) [32]=(prS L).data.toList∧EQ (iL (jnT (rgW L)))=0∧(nS (iL (jnT (rgW L)))).map spR=L:=by
 unfold rgW;rw [dif_pos h];exact (sZ h).choose_spec
noncomputable def qR (x:Sc.Bs) (d:Dp):List Sc.Bs:=x::d.nm.data.toList::rgW d.rg
noncomputable def cX (x:Sc.Bs) (L:List Dp):List (List Sc.Bs):=L.map (qR x)
theorem lW:∀ {ws:List Sc.Bs},ws≠[]→Sc.aW ws=Lib.join ws [32]++[10]
 |[],h=>absurd rfl h
 |[x],_=>by rw [Lib.join_one];rfl
 |x::y::r,_=>by
  have ih:=lW (ws:=y::r) (by simp);show x++[32]++Sc.aW (y::r)=_;rw [qQ,ih]
  simp
theorem NF {x:ByteArray} {d:Dp} (h:bZ d.rg=true):Sc.aW (qR x.data.toList d)=iE x d.nm (prS d.rg):=by
 obtain ⟨h1,_,h3,_⟩:=xB h;unfold qR iE;rw [lW (by simp),qQ];cases hw:rgW d.rg with
 |nil=>exact absurd hw h1
 |cons y r=>rw [qQ,←hw,h3];simp
theorem eP {x:ByteArray}:∀ {L:List Dp},(∀ d ∈ L,bZ d.rg=true)→Sc.aM (cX x.data.toList L)=bQ x L
 |[],_=>rfl
 |d::L,h=>by
  have ih:=eP (x:=x) (L:=L) fun e he=>h e (List.mem_cons_of_mem _ he)
  have e1:Sc.aM (cX x.data.toList (d::L))=Sc.aW (qR x.data.toList d)++Sc.aM (cX x.data.toList L):=by simp [Sc.aM,cX]
  have e2:bQ x (d::L)=iE x d.nm (prS d.rg)++bQ x L:=by simp [bQ]
  rw [e1,e2,ih,NF (h d List.mem_cons_self)]
theorem AO {s:Sc.Bs} (h:Sc.aK s=true):Sc.isW s=true:=by
 unfold Sc.aK at h;rw [Bool.and_eq_true,Bool.and_eq_true] at h
 have h1:s.all Sc.wB=true:=List.all_eq_true.2 fun b hb=>by
  have:=List.all_eq_true.1 h.1.2 b hb
  unfold Sc.nmB Sc.ltB Sc.dgB at this;unfold Sc.wB
  simp at this ⊢
  omega
 cases s with
 |nil=>simp [Sc.EZ] at h
 |cons b r=>unfold Sc.isW;rw [h1];rfl
theorem bU:∀ {L:List Dp} {q:Option ByteArray},dZ q L=true→∀ d ∈ L,Sc.aK d.nm.data.toList=true∧bZ d.rg=true
 |[],_,_,d,hd=>by cases hd
 |e::M,q,hq,d,hd=>by
  rw [dZ,Bool.and_eq_true,Bool.and_eq_true] at hq
  rcases List.mem_cons.1 hd with rfl|hd
  · have:=hq.1.1
    unfold dD at this;rw [Bool.and_eq_true] at this;exact ⟨this.1,hq.1.2⟩
  · exact bU hq.2 d hd
theorem jK {x:Sc.Bs} (hx:Sc.isW x=true) {L:List Dp} (h:∀ d ∈ L,Sc.aK d.nm.data.toList=true∧bZ d.rg=true):(cX x L).all Sc.isL=true:=by
 refine List.all_eq_true.2 fun l hl=> ?_
 obtain ⟨d,hd,rfl⟩:=List.mem_map.1 hl;obtain ⟨_,h2,_⟩:=xB (h d hd).2;unfold Sc.isL qR;rw [List.all_cons,List.all_cons,hx,AO (h d hd).1,h2];rfl
theorem NG (A:List Dp) (d:Dp):cU (A++[d])=some d.nm:=by
 unfold cU;rw [List.getLast?_concat];rfl
theorem fR {X:List Sc.Bs} {x:Sc.Bs} {k:Nat} (hx:fB X x=(k:Int)):∀ (L:List Dp) (rest:List (List Sc.Bs)) (acc:List (List Dp)) (a:Nat),a≤k→k<acc.length→dZ (cU (acc.getD k [])) L=true→
 ∃ a',a'≤k∧aV X a acc (cX x L++rest)=aV X a' (acc.set k (acc.getD k []++L)) rest
 |[],rest,acc,a,ha,hk,_=>by
  refine ⟨a,ha,?_⟩
  have e:acc.set k (acc.getD k []++[])=acc:=by
   rw [List.append_nil,List.getD_eq_getElem?_getD,List.getElem?_eq_getElem hk];exact List.set_getElem_self hk
  rw [e];rfl
 |d::L,rest,acc,a,ha,hk,hr=>by
  rw [dZ,Bool.and_eq_true,Bool.and_eq_true] at hr;obtain ⟨⟨h1,h2⟩,h3⟩:=hr;obtain ⟨w1,w2,w3,w4,w5⟩:=xB h2
  have hd:mQ (qR x d)=d:=by
   show (⟨Sc.ba d.nm.data.toList,(nS (iL (jnT (rgW d.rg)))).map spR⟩:Dp)=d;rw [Sc.kL,w5]
  have hs:aV X a acc (qR x d::(cX x L++rest))=aV X k (acc.set k (acc.getD k []++[d])) (cX x L++rest):=by
   rw [wV (k:=k) ?_ hx ha ?_,hd]
   · unfold qR
     cases hw:rgW d.rg with
     |nil=>exact absurd hw w1
     |cons y r=>simp
   · show oU (cU (acc.getD k [])) (Sc.ba d.nm.data.toList) (rgW d.rg)=0
     unfold oU;rw [Sc.kL,if_pos h1,w5,if_pos ⟨w4,h2⟩]
  have hl:(acc.set k (acc.getD k []++[d])).getD k []=acc.getD k []++[d]:=by
   rw [List.getD_eq_getElem?_getD,List.getElem?_set_self hk];rfl
  obtain ⟨a',ha',e⟩:=fR hx L rest (acc.set k (acc.getD k []++[d])) k (Nat.le_refl _) (by rw [List.length_set];exact hk) (by rw [hl,NG];exact h3);refine ⟨a',ha',?_⟩;rw [hl,List.set_set] at e;show aV X a acc (qR x d::(cX x L++rest))=_;rw [hs,e,List.append_assoc];rfl
noncomputable def jL (t:ByteArray):Int:=if Sc.eA t 4096=0 then (if cW (Sc.cB t 4096)=0 then (if aN (dL (Sc.cB t 4096))=true then 0 else 25) else cW (Sc.cB t 4096)) else Sc.eA t 4096
def qS (t:ByteArray):Mn:=dL (Sc.cB t 4096)
noncomputable def mnL (P:Mn):List (List Sc.Bs):=[[112,114,111,106,101,99,116]]::(cX (mwK 0).data.toList P.d++(cX (mwK 1).data.toList P.v++(cX (mwK 2).data.toList P.o++(cX (mwK 3).data.toList P.p++[]))))
theorem oW {P:Mn} (h:gI P=true):dZ none P.d=true∧dZ none P.v=true∧dZ none P.o=true∧dZ none P.p=true:=by
 unfold gI bV at h;simp only [Bool.and_eq_true] at h;exact ⟨h.1.1.2,h.1.2.1.2,h.1.2.2.1.2,h.1.2.2.2.2⟩
theorem YU {P:Mn} (h:gI P=true):Sc.aM (mnL P)=mA P:=by
 obtain ⟨h1,h2,h3,h4⟩:=oW h;have e:∀ (l:List Sc.Bs) (L:List (List Sc.Bs)),Sc.aM (l::L)=Sc.aW l++Sc.aM L:=fun l L=>by simp [Sc.aM]
 have e2:∀ (K L:List (List Sc.Bs)),Sc.aM (K++L)=Sc.aM K++Sc.aM L:=fun K L=>by simp [Sc.aM]
 unfold mnL mA kG;rw [e,e2,e2,e2,e2,eP fun d hd=>(bU h1 d hd).2,eP fun d hd=>(bU h2 d hd).2,eP fun d hd=>(bU h3 d hd).2,eP fun d hd=>(bU h4 d hd).2,lW (by simp),Lib.join_one];simp [Sc.aM]
theorem Ey {P:Mn} (h:gI P=true):(mnL P).all Sc.isL=true:=by
 obtain ⟨h1,h2,h3,h4⟩:=oW h;unfold mnL;rw [List.all_cons,List.all_append,List.all_append,List.all_append,List.all_append,jK (by decide) (bU h1),jK (by decide) (bU h2),jK (by decide) (bU h3),jK (by decide) (bU h4)];rfl
theorem QH {P:Mn} (h:gI P=true):aV mfW 0 [[],[],[],[]] (cX (mwK 0).data.toList P.d++(cX (mwK 1).data.toList P.v++(cX (mwK 2).data.toList P.o++(cX (mwK 3).data.toList P.p++[]))))=(0,[P.d,P.v,P.o,P.p]):=by
 obtain ⟨h1,h2,h3,h4⟩:=oW h;obtain ⟨a1,b1,e1⟩:=fR (X:=mfW) (x:=(mwK 0).data.toList) (k:=0) (by decide) P.d (cX (mwK 1).data.toList P.v++(cX (mwK 2).data.toList P.o++(cX (mwK 3).data.toList P.p++[]))) [[],[],[],[]] 0 (Nat.le_refl _) (by decide) h1;rw [e1];obtain ⟨a2,b2,e2⟩:=fR (X:=mfW) (x:=(mwK 1).data.toList) (k:=1) (by decide) P.v (cX (mwK 2).data.toList P.o++(cX (mwK 3).data.toList P.p++[])) [P.d,[],[],[]] a1 (by omega) (by simp) h2;rw [show ([[],[],[],[]]:List (List Dp)).set 0 (([[],[],[],[]]:List (List Dp)).getD 0 []++P.d)=[P.d,[],[],[]] from rfl,e2];obtain ⟨a3,b3,e3⟩:=fR (X:=mfW) (x:=(mwK 2).data.toList) (k:=2) (by decide) P.o (cX (mwK 3).data.toList P.p++[]) [P.d,P.v,[],[]] a2 (by omega) (by simp) h3;rw [show ([P.d,[],[],[]]:List (List Dp)).set 1 (([P.d,[],[],[]]:List (List Dp)).getD 1 []++P.v)=[P.d,P.v,[],[]] from rfl,e3]
 obtain ⟨a4,b4,e4⟩:=fR (X:=mfW) (x:=(mwK 3).data.toList) (k:=3) (by decide) P.p [] [P.d,P.v,P.o,[]] a3 (by omega) (by simp) h4;rw [show ([P.d,P.v,[],[]]:List (List Dp)).set 2 (([P.d,P.v,[],[]]:List (List Dp)).getD 2 []++P.o)=[P.d,P.v,P.o,[]] from rfl,e4];rfl
theorem Cd {P:Mn} (h:aN P=true):jL (aF P)=0∧qS (aF P)=P:=by
 have hw:=h;unfold aN at h;rw [Bool.and_eq_true,decide_eq_true_eq] at h;obtain ⟨hs,hl⟩:=h;have ht:aF P=⟨(mA P).toArray⟩:=by unfold aF;rw [if_pos hw]
 have hsc:Sc.bI (aF P).data.toList [] [] []= .ok (mnL P):=by
  have:=Sc.mW (mnL P) [] (Ey hs)
  rw [YU hs] at this;rw [ht]
  simpa using this
 have hz:¬ ((4096:Int)<((aF P).size:Int)):=by
  rw [ht]
  have:(⟨(mA P).toArray⟩:ByteArray).size=(mA P).length:=by show (mA P).toArray.size=_;simp
  rw [this];omega
 have hE:Sc.eA (aF P) 4096=0:=by unfold Sc.eA;rw [if_neg hz,hsc];rfl
 have hL:Sc.cB (aF P) 4096=mnL P:=by unfold Sc.cB;rw [if_neg hz,hsc];rfl
 have hle:cW (mnL P)=0:=by
  unfold mnL cW;simp only [if_true];rw [QH hs]
 have hlp:dL (mnL P)=P:=by
  unfold mnL dL
  simp only
  rw [QH hs];rfl
 unfold jL qS;rw [hE,hL,hle,hlp,hw];exact ⟨rfl,rfl⟩
set_option maxHeartbeats 6400000 in
theorem YV (t:ByteArray) {w:World} (he:Env w) (hf:FL w):Calls Tryz.prog 87 #[.string t] w (MkQ w (jL t) (qS t)):=by
 have HLI:Hid (∀ w1,Calls Tryz.prog 138 #[.string t,.int .i64 4096] w1 fun e w'=>∃ v n,e= .returned (.tuple #[v,.int .i64 (Sc.eA t 4096),.int .i64 n])∧Sc.LinesAt w' v (Sc.cB t 4096)∧Below w1.heap.size w1 w'):=fun w1=>(xA t w1).mono fun e w' ⟨v,h1,h2,h3⟩=>⟨v,_,h1,by obtain ⟨ps,hp,hl⟩:=h2;rw [←hp];exact hl.at,h3⟩
 have HRL:Hid (Sc.eA t 4096=0→∀ w1 v,Below w.heap.size w w1→Sc.LinesAt w1 v (Sc.cB t 4096)→Calls Tryz.prog 139 #[v] w1 (MkQ w1 (cW (Sc.cB t 4096)) (dL (Sc.cB t 4096)))):=fun h0 w1 v hb hl=>by
  obtain ⟨s1,s2,s3,s4⟩:=IV h0;exact wZ hl s2 s1 s3 (he.below hb) (hf.below hb)
 have HMA:Hid (∀ w1 (P:Mn) v1 v2 v3 v4,Below w.heap.size w w1→MnAt w1 P v1 v2 v3 v4→Calls Tryz.prog 61 #[.agg #[v1,v2,v3,v4]] w1 fun e w'=>e= .returned (.bool (aN P))∧Below w1.heap.size w1 w'):=fun w1 P v1 v2 v3 v4 hb h=>GV h (he.below hb) (hf.below hb)
 have HE:Hid (jL t=if Sc.eA t 4096=0 then (if cW (Sc.cB t 4096)=0 then (if aN (dL (Sc.cB t 4096))=true then 0 else 25) else cW (Sc.cB t 4096)) else Sc.eA t 4096):=rfl;have HER:Hid (∀ er w',jL t=er→er≠0→Below w.heap.size w w'→MkQ w (jL t) (qS t) (.returned (.tuple #[.agg #[.slice none 0 0,.slice none 0 0,.slice none 0 0,.slice none 0 0],.int .i64 er])) w'):=fun er w' h1 h2 hb=>MkQ.err h1 h2 hb
 have HOK:Hid (∀ v1 v2 v3 v4 w',jL t=0→Below w.heap.size w w'→OwnM w' w.heap.size (dL (Sc.cB t 4096)) v1 v2 v3 v4→MkQ w (jL t) (qS t) (.returned (.tuple #[.agg #[v1,v2,v3,v4],.int .i64 0])) w'):=fun v1 v2 v3 v4 w' h0 hb ho=>by
  rw [h0];exact ⟨v1,v2,v3,v4,rfl,hb,fun _=>ho,fun hx=>absurd rfl hx⟩
 have HPQ:Hid (∀ w1 er P e w',MkQ w1 er P e w'→∃ a1 k1 c1 a2 k2 c2 a3 k3 c3 a4 k4 c4,e= .returned (.tuple #[.agg #[.slice a1 k1 c1,.slice a2 k2 c2,.slice a3 k3 c3,.slice a4 k4 c4],.int .i64 er])∧Below w1.heap.size w1 w'∧(er=0→OwnM w' w1.heap.size P (.slice a1 k1 c1) (.slice a2 k2 c2) (.slice a3 k3 c3) (.slice a4 k4 c4))):=fun w1 er P e w' h=>by
  obtain ⟨a1,k1,c1,a2,k2,c2,a3,k3,c3,a4,k4,c4,h1,h2,h3,_⟩:=h.sl;exact ⟨a1,k1,c1,a2,k2,c2,a3,k3,c3,a4,k4,c4,h1,h2,fun h0=>(h3 h0).1⟩
 clear he hf;generalize hHQ:MkQ w (jL t) (qS t)=HQ at*;clear hHQ;generalize jL t=PE at*;generalize Sc.eA t 4096=AE at*;generalize Sc.cB t 4096=AL at*;generalize cW AL=LE at*;generalize dL AL=LP at*;have HB0:Hid (BxMF (w.alloc (.cells #[.slice none 0 0,.slice none 0 0,.slice none 0 0,.slice none 0 0] 24)) w.heap.size (.slice none 0 0) (.slice none 0 0) (.slice none 0 0) (.slice none 0 0)):=BxMF.new rfl _ _ _ _;have HKB:Hid (KeepP fun w1=>BxMF w1 w.heap.size (.slice none 0 0) (.slice none 0 0) (.slice none 0 0) (.slice none 0 0)):=qP _ _ _ _ _
 by_cases ha:AE=0
 · subst ha
   have HR2:=aB (HRL.out rfl)
   by_cases hl:LE=0
   · subst hl
     have HMB:=aB (fun w1 v1 v2 v3 v4=>HMA.out w1 LP v1 v2 v3 v4);cases hwb:aN LP
     · have hL:PE=25:=by rw [HE.out];simp [hwb]
       rw [hwb] at HMB
       go_enter Tryz.func87,Tryz.ntmps87
       go_upto_region 7 with (first
        |(go_at_call 138;refine (HLI.out _).mono ?_;rintro e w1 ⟨v,n,rfl,hla,hb1⟩;have HLA:=aB hla;have HB1:Hid (Below w.heap.size w w1∧BxMF w1 w.heap.size (.slice none 0 0) (.slice none 0 0) (.slice none 0 0) (.slice none 0 0)):=⟨aA (aC _ _) hb1,HKB.out _ _ HB0.out hb1⟩;obtain ⟨adv,capv,rfl,_⟩:=hla;clear hb1)
        |(go_at_call 139;refine (HR2.out _ _ HB1.out.1 HLA.out).mono ?_;rintro e w2 hq;obtain ⟨a1,k1,c1,a2,k2,c2,a3,k3,c3,a4,k4,c4,rfl,hb2,hok2⟩:=HPQ.out _ _ _ _ _ hq;have how:=hok2 rfl;have HB3:Hid (Below w.heap.size w (w2.alloc (.cells #[.slice a1 k1 c1,.slice a2 k2 c2,.slice a3 k3 c3,.slice a4 k4 c4] 24))∧BxMF (w2.alloc (.cells #[.slice a1 k1 c1,.slice a2 k2 c2,.slice a3 k3 c3,.slice a4 k4 c4] 24)) w.heap.size (.slice none 0 0) (.slice none 0 0) (.slice none 0 0) (.slice none 0 0)∧OwnM (w2.alloc (.cells #[.slice a1 k1 c1,.slice a2 k2 c2,.slice a3 k3 c3,.slice a4 k4 c4] 24)) w1.heap.size LP (.slice a1 k1 c1) (.slice a2 k2 c2) (.slice a3 k3 c3) (.slice a4 k4 c4)):=⟨aA (aA HB1.out.1 hb2) (aC _ _),HKB.out _ _ (HKB.out _ _ HB1.out.2 hb2) (aC _ _),how.below (aC _ _)⟩;clear hb2 hq hok2 how))
       have HB12:Hid (w.heap.size<w1.heap.size):=HB1.out.2.1.2.2.2.2;have HY3:Hid (BxMF (w2.alloc (.cells #[.slice a1 k1 c1,.slice a2 k2 c2,.slice a3 k3 c3,.slice a4 k4 c4] 24)) w2.heap.size (.slice a1 k1 c1) (.slice a2 k2 c2) (.slice a3 k3 c3) (.slice a4 k4 c4)):=BxMF.new rfl _ _ _ _;generalize w2.alloc (.cells #[.slice a1 k1 c1,.slice a2 k2 c2,.slice a3 k3 c3,.slice a4 k4 c4] 24)=w3 at*;generalize w2.heap.size=M at*;obtain ⟨⟨y0,y1,y2,y3,y4⟩,_⟩:=HY3.out
       go_wp2_with (go_at_call 61;refine (HMB.out _ _ _ _ _ HB3.out.1 HB3.out.2.2.at).mono ?_;rintro e w4 ⟨rfl,ok4⟩;have HO4:Hid (Below w.heap.size w w4∧BxMF w4 w.heap.size (.slice none 0 0) (.slice none 0 0) (.slice none 0 0) (.slice none 0 0)):=⟨aA HB3.out.1 ok4,HKB.out _ _ HB3.out.2.1 ok4⟩;obtain ⟨⟨b0,b1,b2,b3,b4⟩,hfz⟩:=HO4.out.2;have f0:=hfz 0 (by decide);have f1:=hfz 1 (by decide);have f2:=hfz 2 (by decide);have f3:=hfz 3 (by decide);clear ok4 hfz)
       have s4:=fun u0 u1 u2 u3=>set4 b0 b1 b2 b3 u0 u1 u2 u3
       try simp only [Exit.inBlock,Exit.then]
       refine bodyPost_ret (by simp [results,Tryz.results87,s4,go_sem];try rfl) rfl ?_;exact HER.out _ _ hL (by decide) (dB (Nat.le_refl _) HO4.out.1)
     · have hL:PE=0:=by rw [HE.out];simp [hwb]
       rw [hwb] at HMB
       go_enter Tryz.func87,Tryz.ntmps87
       go_upto_region 7 with (first
        |(go_at_call 138;refine (HLI.out _).mono ?_;rintro e w1 ⟨v,n,rfl,hla,hb1⟩;have HLA:=aB hla;have HB1:Hid (Below w.heap.size w w1∧BxMF w1 w.heap.size (.slice none 0 0) (.slice none 0 0) (.slice none 0 0) (.slice none 0 0)):=⟨aA (aC _ _) hb1,HKB.out _ _ HB0.out hb1⟩;obtain ⟨adv,capv,rfl,_⟩:=hla;clear hb1)
        |(go_at_call 139;refine (HR2.out _ _ HB1.out.1 HLA.out).mono ?_;rintro e w2 hq;obtain ⟨a1,k1,c1,a2,k2,c2,a3,k3,c3,a4,k4,c4,rfl,hb2,hok2⟩:=HPQ.out _ _ _ _ _ hq;have how:=hok2 rfl;have HB3:Hid (Below w.heap.size w (w2.alloc (.cells #[.slice a1 k1 c1,.slice a2 k2 c2,.slice a3 k3 c3,.slice a4 k4 c4] 24))∧BxMF (w2.alloc (.cells #[.slice a1 k1 c1,.slice a2 k2 c2,.slice a3 k3 c3,.slice a4 k4 c4] 24)) w.heap.size (.slice none 0 0) (.slice none 0 0) (.slice none 0 0) (.slice none 0 0)∧OwnM (w2.alloc (.cells #[.slice a1 k1 c1,.slice a2 k2 c2,.slice a3 k3 c3,.slice a4 k4 c4] 24)) w1.heap.size LP (.slice a1 k1 c1) (.slice a2 k2 c2) (.slice a3 k3 c3) (.slice a4 k4 c4)):=⟨aA (aA HB1.out.1 hb2) (aC _ _),HKB.out _ _ (HKB.out _ _ HB1.out.2 hb2) (aC _ _),how.below (aC _ _)⟩;clear hb2 hq hok2 how))
       have HB12:Hid (w.heap.size<w1.heap.size):=HB1.out.2.1.2.2.2.2;have HY3:Hid (BxMF (w2.alloc (.cells #[.slice a1 k1 c1,.slice a2 k2 c2,.slice a3 k3 c3,.slice a4 k4 c4] 24)) w2.heap.size (.slice a1 k1 c1) (.slice a2 k2 c2) (.slice a3 k3 c3) (.slice a4 k4 c4)):=BxMF.new rfl _ _ _ _;generalize w2.alloc (.cells #[.slice a1 k1 c1,.slice a2 k2 c2,.slice a3 k3 c3,.slice a4 k4 c4] 24)=w3 at*;generalize w2.heap.size=M at*;obtain ⟨⟨y0,y1,y2,y3,y4⟩,_⟩:=HY3.out
       go_wp2_with (go_at_call 61;refine (HMB.out _ _ _ _ _ HB3.out.1 HB3.out.2.2.at).mono ?_;rintro e w4 ⟨rfl,ok4⟩;have HO4:Hid (Below w.heap.size w w4∧BxMF w4 w.heap.size (.slice none 0 0) (.slice none 0 0) (.slice none 0 0) (.slice none 0 0)):=⟨aA HB3.out.1 ok4,HKB.out _ _ HB3.out.2.1 ok4⟩;have HP4:=aB (HB3.out.2.2.below ok4);have HY4:=aB (qP _ _ _ _ _ _ _ HY3.out ok4);clear y0 y1 y2 y3 y4;obtain ⟨⟨y0,y1,y2,y3,y4⟩,_⟩:=HY4.out;obtain ⟨⟨b0,b1,b2,b3,b4⟩,hfz⟩:=HO4.out.2;have f0:=hfz 0 (by decide);have f1:=hfz 1 (by decide);have f2:=hfz 2 (by decide);have f3:=hfz 3 (by decide);clear ok4 hfz)
       have s4:=fun u0 u1 u2 u3=>set4 b0 b1 b2 b3 u0 u1 u2 u3
       try simp only [Exit.inBlock,Exit.then]
       refine bodyPost_ret (by simp [results,Tryz.results87,s4,go_sem];try rfl) rfl ?_;refine HOK.out _ _ _ _ _ hL (dB (Nat.le_refl _) HO4.out.1) ?_;exact (HP4.out.of fun g hg=>YS (by have:=HB12.out;omega)).base (Nat.le_of_lt HB12.out)
   · have hL:PE=LE:=by rw [HE.out];simp [hl]
     have hre:(LE==0)=false:=by simpa using hl
     go_enter Tryz.func87,Tryz.ntmps87
     go_wp2_with (first
      |(go_at_call 138;refine (HLI.out _).mono ?_;rintro e w1 ⟨v,n,rfl,hla,hb1⟩;have HLA:=aB hla;have HB1:Hid (Below w.heap.size w w1∧BxMF w1 w.heap.size (.slice none 0 0) (.slice none 0 0) (.slice none 0 0) (.slice none 0 0)):=⟨aA (aC _ _) hb1,HKB.out _ _ HB0.out hb1⟩;obtain ⟨adv,capv,rfl,_⟩:=hla;clear hb1)
      |(go_at_call 139;refine (HR2.out _ _ HB1.out.1 HLA.out).mono ?_;rintro e w2 hq;obtain ⟨a1,k1,c1,a2,k2,c2,a3,k3,c3,a4,k4,c4,rfl,hb2,_⟩:=HPQ.out _ _ _ _ _ hq;have HO4:Hid (Below w.heap.size w (w2.alloc (.cells #[.slice a1 k1 c1,.slice a2 k2 c2,.slice a3 k3 c3,.slice a4 k4 c4] 24))∧BxMF (w2.alloc (.cells #[.slice a1 k1 c1,.slice a2 k2 c2,.slice a3 k3 c3,.slice a4 k4 c4] 24)) w.heap.size (.slice none 0 0) (.slice none 0 0) (.slice none 0 0) (.slice none 0 0)):=⟨aA (aA HB1.out.1 hb2) (aC _ _),HKB.out _ _ (HKB.out _ _ HB1.out.2 hb2) (aC _ _)⟩;obtain ⟨⟨b0,b1,b2,b3,b4⟩,hfz⟩:=HO4.out.2;have f0:=hfz 0 (by decide);have f1:=hfz 1 (by decide);have f2:=hfz 2 (by decide);have f3:=hfz 3 (by decide);clear hb2 hq hfz))
     have s4:=fun u0 u1 u2 u3=>set4 b0 b1 b2 b3 u0 u1 u2 u3
     try simp only [Exit.inBlock,Exit.then]
     refine bodyPost_ret (by simp [results,Tryz.results87,s4,go_sem];try rfl) rfl ?_;exact HER.out _ _ hL hl (dB (Nat.le_refl _) HO4.out.1)
 · have hL:PE=AE:=by rw [HE.out,if_neg ha]
   have hre:(AE==0)=false:=by simpa using ha
   go_enter Tryz.func87,Tryz.ntmps87
   go_wp2_with (go_at_call 138;refine (HLI.out _).mono ?_;rintro e w1 ⟨v,n,rfl,_,hb1⟩;have HO4:Hid (Below w.heap.size w w1∧BxMF w1 w.heap.size (.slice none 0 0) (.slice none 0 0) (.slice none 0 0) (.slice none 0 0)):=⟨aA (aC _ _) hb1,HKB.out _ _ HB0.out hb1⟩;obtain ⟨⟨b0,b1,b2,b3,b4⟩,hfz⟩:=HO4.out.2;have f0:=hfz 0 (by decide);have f1:=hfz 1 (by decide);have f2:=hfz 2 (by decide);have f3:=hfz 3 (by decide);clear hb1 hfz)
   have s4:=fun u0 u1 u2 u3=>set4 b0 b1 b2 b3 u0 u1 u2 u3
   try simp only [Exit.inBlock,Exit.then]
   refine bodyPost_ret (by simp [results,Tryz.results87,s4,go_sem];try rfl) rfl ?_;exact HER.out _ _ hL ha (dB (Nat.le_refl _) HO4.out.1)
end Go.Proofs.YtmnhnofnlcbliaaGreatDoor
