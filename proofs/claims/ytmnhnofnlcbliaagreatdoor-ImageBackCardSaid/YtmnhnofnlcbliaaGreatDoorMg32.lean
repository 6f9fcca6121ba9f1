/- Ib1, Io2, Iw1, Iw2, Iy8, Io3: their declarations that are needed, laid in one text, remarks and blanks left out. -/
import Derived.Test.YtmnhnofnlcbliaaGreatDoorMg31
namespace Go.Proofs.YtmnhnofnlcbliaaGreatDoor
open Go.RowKit Go.Lib Go.Sort
set_option maxRecDepth 100000
theorem DI {pr:Bool} {L:List Dr} {p:List ByteArray}:Ca.dir p ∈ caD pr L↔∃ d ∈ L.drop 1,d.pa=p:=by
 rw [wG];simp only [List.mem_append]
 constructor
 · rintro ((h|h)|h)
   · rcases qJ h with q|q|q<;>cases q
   · split at h
     · rw [List.mem_singleton] at h
       cases h
     · cases h
   · obtain ⟨e,he,hd⟩:=List.mem_flatMap.1 h
     unfold nT at hd
     rcases List.mem_append.1 hd with q|q
     · simp at q
       exact ⟨e,he,q.symm⟩
     · split at q
       · rw [List.mem_singleton] at q
         cases q
       · cases q
 · rintro ⟨d,h,rfl⟩
   exact Or.inr (List.mem_flatMap.2 ⟨d,h,by unfold nT;simp⟩)
section
variable {P:Mn} {G:List Nd} {L:List Dr} (h:IOk P G L) (pr:Bool) (mt lt:ByteArray)
include h
theorem QX:∀ x ∈ aQ mt lt pr L,∀ y ∈ aQ mt lt pr L,x.pa=y.pa→x=y:=fun x hx y hy e=>by
 obtain ⟨_,f1,_⟩:=cM h.ok pr mt lt;obtain ⟨a,ha,rfl⟩:=(f1 _).1 hx;obtain ⟨b,hb,rfl⟩:=(f1 _).1 hy;rw [MJ h.ok.mem_uniq (rX h.ok ha) (rX h.ok hb) e]
theorem DJ (y:Fi):y ∈ (aQ mt lt pr L).foldl aR []↔y ∈ aQ mt lt pr L:=by
 have q:=GT _ (QX h pr mt lt) _ (Nat.le_refl _) y
 rwa [List.take_length] at q
theorem NU {a:Ca} (ha:a ∈ caD pr L):cP ((aQ mt lt pr L).foldl aR []) (caF mt lt a).pa=caF mt lt a:=by
 obtain ⟨_,f1,_⟩:=cM h.ok pr mt lt;have hm:caF mt lt a ∈ aQ mt lt pr L:=(f1 _).2 ⟨a,ha,rfl⟩;unfold cP;cases hf:qW ((aQ mt lt pr L).foldl aR []) (caF mt lt a).pa with
 |none=>exact absurd rfl (sJ hf _ ((DJ h pr mt lt _).2 hm))
 |some x=>
  obtain ⟨h1,h2⟩:=sI hf;exact QX h pr mt lt _ ((DJ h pr mt lt _).1 h1) _ hm h2
theorem Fj:(qW ((aQ mt lt pr L).foldl aR []) qH).isSome=pr:=by
 obtain ⟨_,f1,_⟩:=cM h.ok pr mt lt;cases hf:qW ((aQ mt lt pr L).foldl aR []) qH with
 |none=>
  cases pr with
  |false=>rfl
  |true=>
   have hm:caF mt lt .pru ∈ aQ mt lt true L:=(f1 _).2 ⟨.pru,QS.2 rfl,rfl⟩;exact absurd rfl (sJ hf _ ((DJ h true mt lt _).2 hm))
 |some x=>
  obtain ⟨h1,h2⟩:=sI hf;obtain ⟨a,ha,rfl⟩:=(f1 _).1 ((DJ h pr mt lt _).1 h1);have ht:=GQ (mt:=mt) (lt:=lt) (rX h.ok ha);rw [h2] at ht;have ht:tgC .pru=tgC a:=ht;cases a with
  |pru=>exact (QS.1 ha).symm
  |_=>cases ht
theorem ZR (M:List Fi) {a:Ca} (ha:a ∈ caD pr L):jO M (caF mt lt a)=match a with
 | .dir p=>[⟨p,gPk (cP M (aO p++fH)).da,1⟩]
 |_=>[]:=by
 have hpa:=QU h.ok mt lt ((qI h.ok).2 ha)
 have hno:(∀ p,a≠ .dir p)→cI (caF mt lt a).pa.data.toList=none:=fun hne=>by
  cases hq:cI (caF mt lt a).pa.data.toList with
  |none=>rfl
  |some q=>
   exfalso
   have e:=oM hq;have ht:=GQ (mt:=mt) (lt:=lt) (rX h.ok ha)
   by_cases h0:q=[]
   · subst h0
     have e2:(caF mt lt a).pa=⟨#[47]⟩:=by rw [←e];rfl
     rw [e2] at hpa;unfold Dk.mU at hpa;simp only [Bool.and_eq_true,Bool.not_eq_true',beq_eq_false_iff_ne,ne_eq] at hpa;exact hpa.2 (by rw [ByteArray.toList_eq])
   · by_cases hn:aT q=true
     · have e2:aH q=aO q:=by unfold aH;rw [if_neg h0,if_pos hn];rfl
       rw [←e,e2] at ht;have h3:=GQ (L:=L) (mt:=mt) (lt:=lt) (a:= .dir q) hn;have h4:tg (aO q)=0:=h3;rw [h4] at ht;cases a with
       |dir p=>exact hne p rfl
       |_=>cases ht
     · have e2:aH q=⟨#[]⟩:=by unfold aH;rw [if_neg h0,if_neg hn]
       rw [←e,e2,Dk.tF] at hpa;revert hpa;decide
 cases a with
 |dir p=>
  obtain ⟨d,hd,rfl⟩:=DI.1 ha;obtain ⟨i,hi,hne,rfl⟩:=dO.1 hd;obtain ⟨h0,hn,_,_⟩:=h.ok.names i hi hne;have e2:aH L[i].pa=aO L[i].pa:=by unfold aH;rw [if_neg h0,if_pos hn];rfl
  have hp:=jG (Or.inr hn:L[i].pa=[]∨aT L[i].pa=true);rw [e2] at hp;show jO M ⟨aO L[i].pa,true,⟨#[]⟩⟩=_;unfold jO
  simp only
  rw [hp]
 |man=>unfold jO;rw [hno (by intro p q;cases q)]
 |lok=>unfold jO;rw [hno (by intro p q;cases q)]
 |pru=>unfold jO;rw [hno (by intro p q;cases q)]
 |mod p=>unfold jO;rw [hno (by intro p q;cases q)]
 |pkg d=>unfold jO;rw [hno (by intro p q;cases q)]
theorem QY:(aQ mt lt pr L).flatMap (jO ((aQ mt lt pr L).foldl aR []))=(L.drop 1).map fun d=>⟨d.pa,d.pk,1⟩:=by
 obtain ⟨f0,f1,_⟩:=cM h.ok pr mt lt
 have hpk:∀ d ∈ L.drop 1,gPk (cP ((aQ mt lt pr L).foldl aR []) (aO d.pa++fH)).da=d.pk:=fun d hd=>by
  have e:=NU h pr mt lt (Cn.2 hd);have e2:cP ((aQ mt lt pr L).foldl aR []) (aO d.pa++fH)=caF mt lt (.pkg d):=e;rw [e2];show gPk (bA d.pk)=d.pk;obtain ⟨i,hi,hne,rfl⟩:=dO.1 hd;have hb:=Cl (h.ok.names i hi hne).2.2.2;unfold gPk;rw [if_pos hb.1,hb.2]
 have hmem:∀ z,z ∈ (aQ mt lt pr L).flatMap (jO ((aQ mt lt pr L).foldl aR []))↔z ∈ (L.drop 1).map fun d=>(⟨d.pa,d.pk,1⟩:Dr):=fun z=>by
  rw [List.mem_flatMap,List.mem_map]
  constructor
  · rintro ⟨x,hx,hz⟩
    obtain ⟨a,ha,rfl⟩:=(f1 _).1 hx;rw [ZR h pr mt lt _ ha] at hz;cases a with
    |dir p=>
     obtain ⟨d,hd,rfl⟩:=DI.1 ha;refine ⟨d,hd,?_⟩;rw [List.mem_singleton.1 hz,hpk d hd]
    |_=>cases hz
  · rintro ⟨d,hd,rfl⟩
    have ha:Ca.dir d.pa ∈ caD pr L:=DI.2 ⟨d,hd,rfl⟩;refine ⟨caF mt lt (.dir d.pa),(f1 _).2 ⟨_,ha,rfl⟩,?_⟩;rw [ZR h pr mt lt _ ha];simp only [List.mem_singleton];rw [hpk d hd]
 have hone:∀ (M:List Fi) x z,z ∈ jO M x→aH z.pa=x.pa:=fun M x z hz=>by
  unfold jO at hz
  split at hz
  · rename_i p hp
    rw [List.mem_singleton.1 hz];exact oM hp
  · cases hz
 have hs1:((aQ mt lt pr L).flatMap (jO ((aQ mt lt pr L).foldl aR []))).Pairwise fun x y=>eF (aH x.pa) (aH y.pa)<0:=by
  rw [List.pairwise_flatMap];refine ⟨fun x _=> ?_,f0.imp fun {x y} q z hz z' hz'=> ?_⟩
  · have hl:=JP ((aQ mt lt pr L).foldl aR []) x
    match hg:jO ((aQ mt lt pr L).foldl aR []) x with
    |[]=>exact List.Pairwise.nil
    |[z]=>exact List.pairwise_singleton _ _
    |_::_::_=>rw [hg] at hl;simp at hl
  · rw [hone _ _ _ hz,hone _ _ _ hz']
    exact q
 have hs2:((L.drop 1).map fun d=>(⟨d.pa,d.pk,1⟩:Dr)).Pairwise fun x y=>eF (aH x.pa) (aH y.pa)<0:=by
  rw [List.pairwise_map];exact List.Pairwise.drop h.rise
 have hn:∀ {A:List Dr},(A.Pairwise fun x y=>eF (aH x.pa) (aH y.pa)<0)→A.Nodup:=fun {A} h=>h.imp fun {x y} q e=>by
  subst e;rw [tL.irr] at q;omega
 exact List.Perm.eq_of_pairwise (le:=fun x y:Dr=>eF (aH x.pa) (aH y.pa)<0) (fun a b _ _ q1 q2=>by
  have:=(tL.anti _ _).1 q1
  omega) hs1 hs2 ((List.perm_ext_iff_of_nodup (hn hs1) (hn hs2)).2 hmem)
theorem QZ:SamePP L (bW ((aQ mt lt pr L).foldl aR []) (aQ mt lt pr L)):=by
 have h0:=h.ok.len.1;unfold bW;rw [QY h pr mt lt];refine ⟨by rw [List.length_cons,List.length_map,List.length_drop];omega,fun i hi hj=> ?_⟩;cases i with
 |zero=>
  rw [h.root hi];exact ⟨rfl,rfl⟩
 |succ i=>
  simp only [List.getElem_cons_succ,List.getElem_map,List.getElem_drop]
  have:1+i=i+1:=by omega
  simp only [this,and_self]
theorem ZS:cH (bW ((aQ mt lt pr L).foldl aR []) (aQ mt lt pr L))=true:=by
 have hs:=QZ h pr mt lt
 have hr:GA (bW ((aQ mt lt pr L).foldl aR []) (aQ mt lt pr L))=true:=by
  have q:=(cZ.1 h.chk).2.1;rw [mP h.ok.len.1,h.root h.ok.len.1] at q;exact q
 have hnd:∀ i (hi:i<(bW ((aQ mt lt pr L).foldl aR []) (aQ mt lt pr L)).length),i≠0→(bW ((aQ mt lt pr L).foldl aR []) (aQ mt lt pr L))[i].nd=1:=fun i hi hne=>by
  cases i with
  |zero=>exact absurd rfl hne
  |succ i=>
   have e:bW ((aQ mt lt pr L).foldl aR []) (aQ mt lt pr L)=drZ::(L.drop 1).map fun d=>⟨d.pa,d.pk,1⟩:=by unfold bW;rw [QY h pr mt lt]
   have q:=List.getElem_of_eq e hi;rw [q];simp only [List.getElem_cons_succ,List.getElem_map]
 revert hs hr hnd;generalize bW ((aQ mt lt pr L).foldl aR []) (aQ mt lt pr L)=A;intro hs hr hnd;obtain ⟨c1,_,c3⟩:=cZ.1 h.chk;refine cZ.2 ⟨by rw [←hs.len];exact c1,hr,fun i hi hne=> ?_⟩;have hl:i<L.length:=by rw [hs.len];exact hi
 have q:=c3 i hl hne;rw [qA hl] at q;rw [qA hi]
 have ht:SamePP (L.take i) (A.take i):=⟨by rw [List.length_take,List.length_take,hs.len],fun k h1 h2=>by
  rw [List.getElem_take,List.getElem_take];rw [List.length_take] at h1 h2;exact hs.at_ k (by omega) (by omega)⟩
 obtain ⟨e1,e2⟩:=hs.at_ i hl hi;have e3:=hnd i hi hne;unfold vP at q ⊢;rw [←e1,←e2,e3,←ht.find,←ht.find];simp only [Bool.and_eq_true,decide_eq_true_eq] at q ⊢;obtain ⟨⟨⟨⟨⟨q1,_⟩,q2⟩,q3⟩,q4⟩,q5⟩:=q;exact ⟨⟨⟨⟨⟨q1,by decide⟩,q2⟩,q3⟩,q4⟩,q5⟩
end
theorem BF {P:Mn} {G:List Nd} {L:List Dr} {pr:Bool} (hm:fW P G L=true) (he:fM P G L pr=false):gM (dJ P G L pr)=P∧gG (dJ P G L pr)=G∧gT (dJ P G L pr)=L∧gB (dJ P G L pr)=pr:=by
 have h:=iOk hm;have hf:dJ P G L pr=aQ (aF P) (Lo.prT G) pr L:=by unfold dJ;rw [if_pos ⟨hm,he⟩]
 rw [hf]
 have hgM:gM (aQ (aF P) (Lo.prT G) pr L)=P:=by
  unfold gM;have e:cP ((aQ (aF P) (Lo.prT G) pr L).foldl aR []) kF=caF (aF P) (Lo.prT G) .man:=NU h pr _ _ QR;rw [e];show gMn (aF P)=P;have hb:=Cd h.man;unfold gMn;rw [if_pos hb.1,hb.2]
 have hgG:gG (aQ (aF P) (Lo.prT G) pr L)=G:=by
  unfold gG;have e:cP ((aQ (aF P) (Lo.prT G) pr L).foldl aR []) gW=caF (aF P) (Lo.prT G) .lok:=NU h pr _ _ Cm;rw [e];show gGr (Lo.prT G)=G;unfold gGr Lo.prT;rw [if_pos h.lok,Lo.ZC h.lok];rfl
 refine ⟨hgM,hgG,?_,Fj h pr _ _⟩;unfold gT;rw [hgG];have hs:=QZ h pr (aF P) (Lo.prT G);have hc:=ZS h pr (aF P) (Lo.prT G);revert hs hc;generalize bW ((aQ (aF P) (Lo.prT G) pr L).foldl aR []) (aQ (aF P) (Lo.prT G) pr L)=A;intro hs hc
 have hmo:fV A G=L.map Dr.nd:=by
  rw [h.nds];unfold fV;rw [if_pos ⟨hc,h.led⟩,if_pos ⟨h.chk,h.led⟩,hs.mapS]
 rw [hmo];refine List.ext_getElem (by rw [iJ,hs.len]) fun i h1 h2=> ?_
 have hi:i<A.length:=by rw [iJ] at h1;exact h1
 obtain ⟨e1,e2⟩:=hs.at_ i h2 hi;rw [mV hi h1,List.getElem?_map,List.getElem?_eq_getElem h2,←e1,←e2];rfl
theorem ZT {P:Mn} {G:List Nd} {L:List Dr} {pr:Bool} (hm:fW P G L=true) (he:fM P G L pr=false):gOk (dJ P G L pr):=by
 obtain ⟨h1,h2,h3,h4⟩:=BF hm he;unfold gOk;rw [h1,h2,h3,h4];exact ⟨NL.2 hm,rfl⟩
end Go.Proofs.YtmnhnofnlcbliaaGreatDoor
namespace Go.Proofs.YtmnhnofnlcbliaaGreatDoor
open Go.RowKit
set_option maxRecDepth 100000
theorem nR {B:Nat} {w w':World} (h:Below B w w') (n:Nat):Below B w (w'.drewN n):=⟨h.os,h.tape,h.output,h.size,h.block⟩
set_option maxHeartbeats 6400000 in
theorem NW {A B:List Dr} {va vb:Value} {w:World} (ha:DirsAt w va A) (hb:DirsAt w vb B) (hA:A.length≤1000000000000) (hf:∀ d ∈ A,d.pa.length≤9223372036854775807∧PgZ d.pk):
 Calls Tryz.prog 14 #[.agg #[va],.agg #[vb]] w fun e w'=>e= .returned (.bool (eqB A B))∧Below w.heap.size w w':=by
 obtain ⟨ad,ca,rfl,hca,hea⟩:=ha.sl;obtain ⟨bd,cb,rfl,hcb,heb⟩:=hb.sl
 have HDA:Hid (∀ w1,Below w.heap.size w w1→∀ i (hi:i<A.length),∃ g o,ad=some ⟨g,o,none⟩∧∃ u v1 v2 v3,DrIn w1 g (o+i*9) A[i] u v1 v2 v3):=fun w1 h1 i hi=>by
  obtain ⟨g,o,e,u,v1,v2,v3,hd⟩:=hea i hi;exact ⟨g,o,e,u,v1,v2,v3,hd.below h1⟩
 have HDB:Hid (∀ w1,Below w.heap.size w w1→∀ i (hi:i<B.length),∃ g o,bd=some ⟨g,o,none⟩∧∃ u v1 v2 v3,DrIn w1 g (o+i*9) B[i] u v1 v2 v3):=fun w1 h1 i hi=>by
  obtain ⟨g,o,e,u,v1,v2,v3,hd⟩:=heb i hi;exact ⟨g,o,e,u,v1,v2,v3,hd.below h1⟩
 have HF:=aB hf;have HW:Hid (∀ w1,Below ((w.alloc (.cells #[.slice ad A.length ca] 30)).alloc (.cells #[.slice bd B.length cb] 30)).heap.size ((w.alloc (.cells #[.slice ad A.length ca] 30)).alloc (.cells #[.slice bd B.length cb] 30)) w1→Below w.heap.size w w1∧BxT w1 w.heap.size (.slice ad A.length ca)∧BxT w1 (w.heap.size+1) (.slice bd B.length cb)):=fun w1 h1=>⟨aA (aS _ _ _) h1,cL _ _ _ _ (cL _ _ _ _ (BxT.new _ _) (aC _ _)) h1,cL _ _ _ _ (by have q:=BxT.new (w.alloc (.cells #[.slice ad A.length ca] 30)) (.slice bd B.length cb);rw [show (w.alloc (.cells #[.slice ad A.length ca] 30)).heap.size=w.heap.size+1 by simp] at q;exact q) h1⟩
 clear ha hb hea heb hf hca hcb;generalize hW0:((w.alloc (.cells #[.slice ad A.length ca] 30)).alloc (.cells #[.slice bd B.length cb] 30))=W0 at*;obtain ⟨hb0,⟨x0,x1⟩,y0,y1⟩:=HW.out W0 (Below.refl _ _);have HB0:=aB hb0;clear hb0
 by_cases hl:A.length=B.length
 · have HL:=aB hl
   have hln:((A.length:Int) != (B.length:Int))=false:=by rw [hl];simp
   clear hl
   go_enter Tryz.func14,Tryz.ntmps14
   go_wp2_with fail
   clear x0 x1 y0 y1 hW0 hln
   go_loopw [5] (fun vi wr=>∃ i:Nat,i≤A.length∧vi= .int .i64 i∧Below W0.heap.size W0 wr∧∀ q (_:q<i) (hq:q<A.length) (hp:q<B.length),A[q]=B[q]) (fun vi _=>A.length - (intOf vi).toNat)
   case atStart=>exact ⟨0,Nat.zero_le _,rfl,Below.refl _ _,fun q hq=>by omega⟩
   case round=>
    obtain ⟨i,hil,rfl,hbr,hall⟩:=hrel;have HALL:=aB hall;have HBR:=aB hbr;obtain ⟨hbw,⟨x0,x1⟩,y0,y1⟩:=HW.out wr hbr;have HBW:=aB hbw;clear hall
    by_cases hlt:i<A.length
    · have hlb:i<B.length:=by have:=HL.out;omega
      have hii:(i:Int)<A.length:=by omega
      have hij:(i:Int)<B.length:=by omega
      obtain ⟨g,o,rfl,u,v1,v2,v3,hd⟩:=HDA.out wr hbw i hlt;obtain ⟨g2,o2,rfl,x,y1',y2',y3',hd2⟩:=HDB.out wr hbw i hlb;have hfi:=HF.out _ (List.getElem_mem hlt);have HPT:Hid (∀ w1,Below wr.heap.size wr w1→Calls Tryz.prog 47 #[u,x] w1 fun e w'=>e= .returned (.bool (eqB A[i].pa B[i].pa))∧Below w1.heap.size w1 w'):=fun w1 h1=>TA (hd.2.1.1.below h1) (hd2.2.1.1.below h1) hfi.1
      have HSM:Hid (∀ w1,Below wr.heap.size wr w1→Calls Tryz.prog 48 #[.agg #[.string A[i].pk.nm,.int .i64 A[i].pk.a,.int .i64 A[i].pk.b,.int .i64 A[i].pk.c,v1,v2,v3],.agg #[.string B[i].pk.nm,.int .i64 B[i].pk.a,.int .i64 B[i].pk.b,.int .i64 B[i].pk.c,y1',y2',y3']] w1 fun e w'=>e= .returned (.bool (eqB A[i].pk B[i].pk))∧Below w1.heap.size w1 w'):=fun w1 h1=>JE (hd.2.1.2.below h1) (hd2.2.1.2.below h1) hfi.2.1 hfi.2.2.1 hfi.2.2.2
      have HYES:Hid (eqB A[i].pa B[i].pa=true→eqB A[i].pk B[i].pk=true→A[i].nd=B[i].nd→∀ q (_:q<i+1) (hq:q<A.length) (hp:q<B.length),A[q]=B[q]):=fun h1 h2 h3 q h4 h5 h6=>by
       rcases Nat.lt_or_ge q i with h7|h7
       · exact HALL.out q h7 h5 h6
       · obtain rfl:q=i:=by omega
         have e1:=eW.1 h1;have e2:=eW.1 h2;revert e1 e2 h3;generalize A[q]=d;generalize B[q]=e;intro h3 e1 e2;obtain ⟨a,b,c⟩:=d;obtain ⟨a',b',c'⟩:=e
         simp only at h3 e1 e2
         rw [h3,e1,e2]
      have HNO:Hid (¬ (eqB A[i].pa B[i].pa=true∧eqB A[i].pk B[i].pk=true∧A[i].nd=B[i].nd)→eqB A B=false):=fun h=>bX fun e=>h (by
       have q:=List.getElem_of_eq e hlt;rw [q];exact ⟨aX rfl,aX rfl,rfl⟩)
      obtain ⟨ua,uc,rfl⟩:=hd.2.1.1.sl;obtain ⟨a1,c1,rfl⟩:=hd.2.1.2.1.sl;obtain ⟨a2,c2,rfl⟩:=hd.2.1.2.2.1.sl;obtain ⟨a3,c3,rfl⟩:=hd.2.1.2.2.2.sl;obtain ⟨xa,xc,rfl⟩:=hd2.2.1.1.sl;obtain ⟨b1,e1,rfl⟩:=hd2.2.1.2.1.sl;obtain ⟨b2,e2,rfl⟩:=hd2.2.1.2.2.1.sl;obtain ⟨b3,e3,rfl⟩:=hd2.2.1.2.2.2.sl;have HK:Hid (KeepP fun w9=>Below wr.heap.size wr w9∧(BxT w9 w.heap.size (.slice (some ⟨g,o,none⟩) A.length ca)∧BxT w9 (w.heap.size+1) (.slice (some ⟨g2,o2,none⟩) B.length cb))∧DrIn w9 g (o+i*9) A[i] (.slice ua A[i].pa.length uc) (.slice a1 A[i].pk.d.length c1) (.slice a2 A[i].pk.p.length c2) (.slice a3 A[i].pk.o.length c3)∧DrIn w9 g2 (o2+i*9) B[i] (.slice xa B[i].pa.length xc) (.slice b1 B[i].pk.d.length e1) (.slice b2 B[i].pk.p.length e2) (.slice b3 B[i].pk.o.length e3)):=(aG wr).and (((cL _ _).and (cL _ _)).and ((rJ _ _ _ _ _ _ _).and (rJ _ _ _ _ _ _ _)))
      have HO:Hid (Below wr.heap.size wr wr∧(BxT wr w.heap.size (.slice (some ⟨g,o,none⟩) A.length ca)∧BxT wr (w.heap.size+1) (.slice (some ⟨g2,o2,none⟩) B.length cb))∧DrIn wr g (o+i*9) A[i] (.slice ua A[i].pa.length uc) (.slice a1 A[i].pk.d.length c1) (.slice a2 A[i].pk.p.length c2) (.slice a3 A[i].pk.o.length c3)∧DrIn wr g2 (o2+i*9) B[i] (.slice xa B[i].pa.length xc) (.slice b1 B[i].pk.d.length e1) (.slice b2 B[i].pk.p.length e2) (.slice b3 B[i].pk.o.length e3)):=⟨Below.refl _ _,⟨⟨x0,x1⟩,y0,y1⟩,hd,hd2⟩;clear hd hd2 hbw hbr hfi;generalize eqB A[i].pa B[i].pa=r1 at*;generalize eqB A[i].pk B[i].pk=r2 at*;have HND:Hid ((A[i].nd != B[i].nd)=false→A[i].nd=B[i].nd):=fun h=>by simpa using h
      have HNN:Hid ((A[i].nd != B[i].nd)=true→¬ A[i].nd=B[i].nd):=fun h=>by simpa using h
      go_wp2_with fail
      clear x0 x1 y0 y1;refine cE HK (by kernel_rfl) (by kernel_rfl) (by first|exact HO.out|exact HK.out.drew HO.out) ?_;intro C HIN HOUT;clear HO
      repeat
       (with_reducible refine wpQuiet_step (fun K hK=> ?_)
        go_simp
        first
         |(refine hK _ ?_;clear hK K)
         |(apply Exists.intro;refine ⟨fun w1 hC=> ?_,hK _ ?_⟩;(focus ((first|(go_at_call 47;with_reducible exact bJ HIN HOUT HK (fun w1 hk=>HPT.out w1 hk.1) w1 hC)|(exact rfl)|(obtain ⟨hb1,⟨⟨b0,bb0⟩,d0,dd0⟩,⟨⟨p0,p1,p2,p3,p4,p5,p6,p7,p8⟩,_,p9⟩,⟨⟨q0,q1,q2,q3,q4,q5,q6,q7,q8⟩,_,q9⟩⟩:=HOUT.out w1 hC;clear hC;go_simp;first|done|exact rfl));done));clear hK K))
      refine wpQuiet_nil ?_;intro wn hC;have HO:=aB (HOUT.out _ hC);clear hC HIN HOUT C;obtain ⟨hb1,⟨⟨b0,bb0⟩,d0,dd0⟩,⟨⟨p0,p1,p2,p3,p4,p5,p6,p7,p8⟩,_,p9⟩,⟨⟨q0,q1,q2,q3,q4,q5,q6,q7,q8⟩,_,q9⟩⟩:=HO.out;clear hb1 b0 bb0 d0 dd0 p0 p1 p2 p3 p4 p5 p6 p7 p8 p9 q0 q1 q2 q3 q4 q5 q6 q7 q8 q9
      go_wp2_with fail
      refine cE HK (by kernel_rfl) (by kernel_rfl) (by first|exact HO.out|exact HK.out.drew HO.out) ?_;intro C HIN HOUT;clear HO
      repeat
       (with_reducible refine wpQuiet_step (fun K hK=> ?_)
        go_simp
        first
         |(refine hK _ ?_;clear hK K)
         |(apply Exists.intro;refine ⟨fun w1 hC=> ?_,hK _ ?_⟩;(focus ((first|(go_at_call 48;with_reducible exact bJ HIN HOUT HK (fun w1 hk=>HSM.out w1 hk.1) w1 hC)|(exact rfl)|(obtain ⟨hb1,⟨⟨b0,bb0⟩,d0,dd0⟩,⟨⟨p0,p1,p2,p3,p4,p5,p6,p7,p8⟩,_,p9⟩,⟨⟨q0,q1,q2,q3,q4,q5,q6,q7,q8⟩,_,q9⟩⟩:=HOUT.out w1 hC;clear hC;go_simp;first|done|exact rfl));done));clear hK K))
      refine wpQuiet_nil ?_;intro wm hC;have HO:=aB (HOUT.out _ hC);clear hC HIN HOUT C;obtain ⟨hb1,⟨⟨b0,bb0⟩,d0,dd0⟩,⟨⟨p0,p1,p2,p3,p4,p5,p6,p7,p8⟩,_,p9⟩,⟨⟨q0,q1,q2,q3,q4,q5,q6,q7,q8⟩,_,q9⟩⟩:=HO.out;have HBM:=aB (aA HBR.out hb1);have HBN:=aB (aA HBW.out hb1);clear hb1 HPT HSM HK HO HBW HDA HDB HF HW HB0;cases r1
      · have HE:Hid (eqB A B=false):=HNO.out fun q=>by cases q.1
        clear HNO HYES HND HNN
        go_wp2_with fail
        go_quiet (fail)
        go_wp2
        go_ret;exact ⟨aD HE.out.symm,nR HBN.out _⟩
      · cases r2
        · have HE:Hid (eqB A B=false):=HNO.out fun q=>by cases q.2.1
          clear HNO HYES HND HNN
          go_wp2_with fail
          go_quiet (fail)
          go_wp2
          go_ret;exact ⟨aD HE.out.symm,nR HBN.out _⟩
        · cases hnd:(A[i].nd != B[i].nd)
          · have HY:=aB (HYES.out rfl rfl (HND.out hnd))
            clear HNO HYES HND HNN
            go_wp2_with fail
            go_quiet (fail)
            go_wp2
            exact ⟨⟨i+1,by omega,by go_num,nR HBM.out _,HY.out⟩,by simp [intOf];omega⟩
          · have HE:Hid (eqB A B=false):=HNO.out fun q=>HNN.out hnd q.2.2
            clear HNO HYES HND HNN
            go_wp2_with fail
            go_quiet (fail)
            go_wp2
            go_ret;exact ⟨aD HE.out.symm,nR HBN.out _⟩
    · obtain rfl:i=A.length:=by omega
      have HE:Hid (eqB A B=true):=aX (List.ext_getElem HL.out fun q h1 h2=>HALL.out q h1 h1 h2);clear hbw hbr
      go_wp2
      go_ret;exact ⟨aD HE.out.symm,HBW.out⟩
 · have HE:Hid (eqB A B=false):=bX fun e=>hl (by rw [e])
   have hln:((A.length:Int) != (B.length:Int))=true:=by simp;omega
   clear hl
   go_enter Tryz.func14,Tryz.ntmps14
   go_wp2
   go_ret;exact ⟨aD HE.out.symm,HB0.out⟩
set_option maxHeartbeats 1600000 in
theorem xU (most:Int) (h:0≤most) (w:World):Calls Tryz.prog 138 #[.string ⟨#[]⟩,.int .i64 most] w fun e w'=>e= .returned (.tuple #[.slice none 0 0,.int .i64 0,.int .i64 0])∧Below w.heap.size w w':=by
 have h0:¬ most<(0:Int):=by omega
 have h1:decide (most<(0:Int))=false:=decide_eq_false h0
 go_enter Tryz.func138,Tryz.ntmps138
 go_wp2
 refine Sc.nV (fun _ _ _=>False) (fun _ _ _=>0) ?_ (fun _ _ _ q=>q.elim)
 go_wp2
 go_step3
 go_wp2
 simp only [Sc.kK];go_ret3;exact ⟨rfl,Below.refl _ _⟩
set_option maxHeartbeats 1600000 in
theorem xV (w:World):Calls Tryz.prog 139 #[.slice none 0 0] w fun e w'=>e= .returned (.tuple #[.agg #[.slice none 0 0,.slice none 0 0,.slice none 0 0,.slice none 0 0],.int .i64 22])∧Below w.heap.size w w':=by
 go_enter Tryz.func139,Tryz.ntmps139
 go_wp2
 refine bodyPost_ret (by simp [results,Tryz.results139,go_sem];try rfl) rfl ?_;exact ⟨rfl,aC _ _⟩
abbrev mnZ:Obj:= .cells #[.slice none 0 0,.slice none 0 0,.slice none 0 0,.slice none 0 0] 24
set_option maxHeartbeats 1600000 in
theorem JX {t:ByteArray} (hl:∀ W,Calls Tryz.prog 138 #[.string t,.int .i64 4096] W fun e w'=>e= .returned (.tuple #[.slice none 0 0,.int .i64 0,.int .i64 0])∧Below W.heap.size W w') (w:World):Calls Tryz.prog 87 #[.string t] w fun e w'=>e= .returned (.tuple #[.agg #[.slice none 0 0,.slice none 0 0,.slice none 0 0,.slice none 0 0],.int .i64 22])∧Below w.heap.size w w':=by
 have HL:=aB hl;have HR:=aB xV;obtain ⟨A0,hA0⟩:∃ A,A=w.alloc mnZ:=⟨_,rfl⟩;have HB0:Hid (Below w.heap.size w A0):=by rw [hA0];exact aC _ _
 have HT0:Hid (A0.heap[w.heap.size]? =some mnZ):=by rw [hA0];exact World.alloc_heap_new w _
 clear hl
 go_enter Tryz.func87,Tryz.ntmps87
 go_upto_region 1 with fail
 rw [←hA0];clear hA0
 go_wp2_with (first
  |(have _t:=HB1;go_at_call 139;refine (HR.out _).mono ?_;rintro e W2 ⟨rfl,ok⟩;have HB2:=aB (aA HB1.out ok);have HT2:Hid (W2.heap[w.heap.size]? =some mnZ):=(ok.block _ (aY HT1.out)).trans HT1.out;have st0:=((aC W2 mnZ).block _ (aY HT2.out)).trans HT2.out;have hc:∀ i u,(#[Value.slice none 0 0,Value.slice none 0 0,Value.slice none 0 0,Value.slice none 0 0]:Array Value)[i]? =some u→(W2.alloc mnZ).cell? ⟨w.heap.size,i,none⟩=some u:=(fun i u q=>by rw [Lib.cell_of_heap st0];exact q);have hz:∀ i,(W2.alloc mnZ).frozen? ⟨w.heap.size,i,none⟩=false:=(fun i=>by simp [World.frozen?,st0]);have k0:=hc 0 _ rfl;have k1:=hc 1 _ rfl;have k2:=hc 2 _ rfl;have k3:=hc 3 _ rfl;have z0:=hz 0;have z1:=hz 1;have z2:=hz 2;have z3:=hz 3;clear ok HB1 hc hz st0)
  |(have _t:=HB0;go_at_call 138;refine (HL.out _).mono ?_;rintro e W1 ⟨rfl,ok⟩;have HB1:=aB (aA HB0.out ok);have HT1:Hid (W1.heap[w.heap.size]? =some mnZ):=(ok.block _ (aY HT0.out)).trans HT0.out;clear ok HB0))
 have s4:=set4 k0 k1 k2 k3 (.slice none 0 0) (.slice none 0 0) (.slice none 0 0) (.slice none 0 0);refine bodyPost_ret (by simp [results,Tryz.results87,s4,go_sem];try rfl) rfl ?_;exact ⟨rfl,((((aA HB2.out (aC _ _)).setCell (p:=⟨w.heap.size,0,none⟩) (Nat.le_refl _) _).setCell (p:=⟨w.heap.size,1,none⟩) (Nat.le_refl _) _).setCell (p:=⟨w.heap.size,2,none⟩) (Nat.le_refl _) _).setCell (p:=⟨w.heap.size,3,none⟩) (Nat.le_refl _) _⟩
theorem yT (w:World):Calls Tryz.prog 87 #[.string ⟨#[]⟩] w fun e w'=>e= .returned (.tuple #[.agg #[.slice none 0 0,.slice none 0 0,.slice none 0 0,.slice none 0 0],.int .i64 22])∧Below w.heap.size w w':=JX (xU 4096 (by decide)) w
abbrev grZ:Obj:= .cells #[.slice none 0 0] 27
set_option maxHeartbeats 1600000 in
theorem yU (w:World):Calls Tryz.prog 140 #[.slice none 0 0] w fun e w'=>e= .returned (.tuple #[.agg #[.slice none 0 0],.bool false])∧Below w.heap.size w w':=by
 go_enter Tryz.func140,Tryz.ntmps140
 go_wp2
 refine bodyPost_ret (by simp [results,Tryz.results140,go_sem];try rfl) rfl ?_;exact ⟨rfl,aC _ _⟩
set_option maxHeartbeats 1600000 in
theorem DK {t:ByteArray} (hl:∀ W,Calls Tryz.prog 138 #[.string t,.int .i64 1048576] W fun e w'=>e= .returned (.tuple #[.slice none 0 0,.int .i64 0,.int .i64 0])∧Below W.heap.size W w') (w:World):Calls Tryz.prog 88 #[.string t] w fun e w'=>e= .returned (.tuple #[.agg #[.slice none 0 0],.int .i64 22])∧Below w.heap.size w w':=by
 have HL:=aB hl;have HR:=aB yU;obtain ⟨A0,hA0⟩:∃ A,A=w.alloc grZ:=⟨_,rfl⟩;have HB0:Hid (Below w.heap.size w A0):=by rw [hA0];exact aC _ _
 have HT0:Hid (A0.heap[w.heap.size]? =some grZ):=by rw [hA0];exact World.alloc_heap_new w _
 clear hl
 go_enter Tryz.func88,Tryz.ntmps88
 go_upto_region 1 with fail
 rw [←hA0];clear hA0
 go_wp2_with (first
  |(have _t:=HB1;go_at_call 140;refine (HR.out _).mono ?_;rintro e W2 ⟨rfl,ok⟩;have HB2:=aB (aA HB1.out ok);have HT2:Hid (W2.heap[w.heap.size]? =some grZ):=(ok.block _ (aY HT1.out)).trans HT1.out;have st0:=((aC W2 grZ).block _ (aY HT2.out)).trans HT2.out;have k0:(W2.alloc grZ).cell? ⟨w.heap.size,0,none⟩=some (.slice none 0 0):=(by rw [Lib.cell_of_heap st0];rfl);have z0:(W2.alloc grZ).frozen? ⟨w.heap.size,0,none⟩=false:=(by simp [World.frozen?,st0]);clear ok HB1 st0)
  |(have _t:=HB0;go_at_call 138;refine (HL.out _).mono ?_;rintro e W1 ⟨rfl,ok⟩;have HB1:=aB (aA HB0.out ok);have HT1:Hid (W1.heap[w.heap.size]? =some grZ):=(ok.block _ (aY HT0.out)).trans HT0.out;clear ok HB0))
 have s1:=World.cell?_setCell_same (W2.alloc grZ) ⟨w.heap.size,0,none⟩ (.slice none 0 0) k0;refine bodyPost_ret (by simp [results,Tryz.results88,s1,go_sem];try rfl) rfl ?_;exact ⟨rfl,(aA HB2.out (aC _ _)).setCell (p:=⟨w.heap.size,0,none⟩) (Nat.le_refl _) _⟩
theorem xW (w:World):Calls Tryz.prog 88 #[.string ⟨#[]⟩] w fun e w'=>e= .returned (.tuple #[.agg #[.slice none 0 0],.int .i64 22])∧Below w.heap.size w w':=DK (xU 1048576 (by decide)) w
end Go.Proofs.YtmnhnofnlcbliaaGreatDoor
namespace Go.Proofs.YtmnhnofnlcbliaaGreatDoor
open Go.RowKit Go.Maps Go.WideMaps
set_option maxRecDepth 100000
theorem DL:aN lA=true:=by
 unfold aN gI;have h1:jD [lA.d,lA.v,lA.o]=true:=UG;rw [h1];decide+kernel
theorem xX:cH [drZ]=true:=by
 refine cZ.2 ⟨⟨by decide,by decide⟩,?_,fun i hi hne=>by simp at hi;omega⟩;rw [mP (by decide)];unfold nZ;rw [show ([drZ]:List Dr)[0]=drZ from rfl,aX (show drZ.pk=lM from rfl)];rfl
theorem JY:lQ [drZ] [ndZ]=0∧fV [drZ] [ndZ]=[0]:=by
 have h1:eM [ndZ]=true:=by decide+kernel
 have h2:iN [drZ] [ndZ]=some [0]:=rfl;refine ⟨?_,?_⟩
 · unfold lQ
   rw [if_pos xX,if_pos h1,h2];rfl
 · unfold fV
   rw [if_pos ⟨xX,h1⟩,h2];rfl
theorem UQ:fW lA [ndZ] [drZ]=true:=by
 unfold fW;rw [DL,JY.1,JY.2,IJ (fun i h=>by simp at h),aX (show ([drZ]:List Dr).map Dr.nd=[0] from rfl)];decide+kernel
theorem JZ:fM lA [ndZ] [drZ] false=true:=by
 unfold fM;rw [aX rfl];rfl
theorem tG:dJ lA [ndZ] [drZ] false=[]∧erI lA [ndZ] [drZ]=0:=by
 unfold dJ erI;rw [UQ,JZ]
 simp
def xF:Fi:=⟨⟨#[47,120]⟩,false,⟨#[]⟩⟩
theorem Ds (s:ByteArray) (h:xF.pa≠s):cP (([xF]:List Fi).foldl aR []) s=Fe:=by
 have h1:([xF]:List Fi).foldl aR []=[xF]:=by simp [aR]
 rw [h1];unfold cP qW;rw [List.find?_cons_of_neg (by simpa using h),List.find?_nil];rfl
theorem ZU:gMn ⟨#[]⟩=lA:=by
 unfold gMn;rw [if_neg];unfold jL;rw [if_pos (by decide+kernel),if_neg (by decide+kernel)];decide+kernel
theorem ZV:gGr ⟨#[]⟩=[]:=by
 have h3:Lo.lX ⟨#[]⟩=none:=by decide+kernel
 unfold gGr;rw [h3];rfl
theorem Gh (w:World):PrsOk w [xF]:=by
 have hm:(cP (([xF]:List Fi).foldl aR []) kF).da=⟨#[]⟩:=by rw [Ds kF (by decide)];rfl
 have hl:(cP (([xF]:List Fi).foldl aR []) gW).da=⟨#[]⟩:=by rw [Ds gW (by decide)];rfl
 refine ⟨fun W _=> ?_,fun W _=> ?_,fun x hx hs=> ?_⟩
 · rw [hm,ZU]
   refine (yT W).mono ?_;rintro e w' ⟨rfl,hb⟩;exact ⟨_,_,_,_,_,_,_,_,_,_,_,_,_,rfl,⟨[],[],[],[],⟨OwnD.nil _ _,rfl⟩,⟨OwnD.nil _ _,rfl⟩,⟨OwnD.nil _ _,rfl⟩,OwnD.nil _ _,rfl⟩,hb⟩
 · rw [hl,ZV]
   refine (xW W).mono ?_;rintro e w' ⟨rfl,hb⟩;exact ⟨_,_,_,_,rfl,⟨[],rfl,⟨rfl,Or.inl ⟨rfl,rfl⟩⟩,fun x hx=>by cases hx⟩,hb⟩
 · obtain rfl:=List.mem_singleton.1 hx
   have h0:(cI xF.pa.data.toList).isSome=false:=by decide+kernel
   rw [h0] at hs;cases hs
theorem Gi:¬ gOk [xF]:=fun h=>by
 have h1:([xF]:List Fi).foldl aR []=[xF]:=by simp [aR]
 have h2:cP [xF] gW=Fe:=by
  unfold cP qW;rw [List.find?_cons_of_neg (by decide),List.find?_nil];rfl
 have h3:Lo.lX ⟨#[]⟩=none:=by decide+kernel
 have h4:gG [xF]=[]:=by
  unfold gG gGr;rw [h1,h2];show (Lo.lX ⟨#[]⟩).getD []=[];rw [h3];rfl
 have h5:=h.1;unfold erI fW at h5;rw [h4] at h5;have h6:Lo.eO []=false:=rfl;rw [h6] at h5
 simp at h5
theorem StOwn.lens {w:World} {B:Nat} {sv:Value} {P:Mn} {G:List Nd} {L:List Dr} {pr:Bool} (h:StOwn w B sv P G L pr):∃ a1 n1 c1 a2 n2 c2 a3 n3 c3 a4 n4 c4 ag cg at_ ct,sv= .agg #[.slice a1 n1 c1,.slice a2 n2 c2,.slice a3 n3 c3,.slice a4 n4 c4,.slice ag G.length cg,.slice at_ L.length ct,.bool pr]∧MnAt w P (.slice a1 n1 c1) (.slice a2 n2 c2) (.slice a3 n3 c3) (.slice a4 n4 c4)∧NodesAt w (.slice ag G.length cg) G∧DirsAt w (.slice at_ L.length ct) L:=by
 obtain ⟨a1,n1,c1,a2,n2,c2,a3,n3,c3,a4,n4,c4,ag,ng,cg,at_,nt,ct,e,h1,h2,ys,h3,h4⟩:=h;have hg:=h2.at;have hd:=h3.at;rw [h4] at hd;obtain ⟨_,_,e2,_⟩:=hg;obtain ⟨_,_,e3,_⟩:=hd;have hg:=h2.at;have hd:=h3.at;rw [h4] at hd;injection e2 with _ q2 _
 injection e3 with _ q3 _
 subst q2;subst q3;exact ⟨_,_,_,_,_,_,_,_,_,_,_,_,_,_,_,_,e,h1.at,hg,hd⟩
theorem Fk:qB [drZ]:=by
 have h:∀ d ∈ ([drZ]:List Dr),d.pa.length*16≤140737488355328∧PgZ d.pk:=fun d hd=>by
  obtain rfl:=List.mem_singleton.1 hd;exact ⟨by decide,by decide,by decide,by decide⟩
 exact ⟨fun d hd=>(h d hd).1,fun d hd=>(h d hd).2⟩
theorem NX {W:World} {B:Nat} {sv:Value} (h:StOwn W B sv lA [ndZ] [drZ] false) (he:Env W) (hf:FL W):Calls Tryz.prog 8 #[sv] W fun e w'=>∃ a c,e= .returned (.tuple #[.slice a 0 c,.int .i64 0])∧Below W.heap.size W w':=by
 obtain ⟨a1,n1,c1,a2,n2,c2,a3,n3,c3,a4,n4,c4,ag,cg,at_,ct,rfl,h1,h2,h3⟩:=h.lens;have hgz:CJ [ndZ]:=⟨by decide,fun n hn=>by obtain rfl:=List.mem_singleton.1 hn;decide⟩;refine (nK h1 ⟨by decide,by decide,by decide,by decide⟩ h2 h3 (by decide) Fk hgz qT he hf).mono ?_;rintro e w' ⟨v,rfl,ho,hb⟩;rw [tG.1] at ho;obtain ⟨a,c,rfl⟩:=ho.form;exact ⟨a,c,by rw [tG.2];rfl,hb⟩
theorem UR (W:World):Calls Tryz.prog 12 #[.slice none 0 0] W fun e w'=>∃ a1 n1 c1 a2 n2 c2 a3 n3 c3 a4 n4 c4 ag cg at_ ct,e= .returned (.tuple #[.agg #[.slice a1 n1 c1,.slice a2 n2 c2,.slice a3 n3 c3,.slice a4 n4 c4,.slice ag 1 cg,.slice at_ 1 ct,.bool false],.int .i64 0])∧Below W.heap.size W w':=by
 have hfl:FlsAt W (.slice none 0 0) []:=⟨none,0,rfl,Nat.le_refl _,fun i hi=>by cases hi⟩;refine (xS hfl).mono ?_;rintro e w' ⟨sv,er,rfl,⟨h1,_⟩,hb⟩;obtain ⟨rfl,hst⟩:=h1 rfl;obtain ⟨a1,n1,c1,a2,n2,c2,a3,n3,c3,a4,n4,c4,ag,cg,at_,ct,rfl,_⟩:=hst.lens;exact ⟨_,_,_,_,_,_,_,_,_,_,_,_,_,_,_,_,rfl,hb⟩
theorem US {W:World} {N:Nat} (h:W.heap[N]? =some (.cells #[.string ⟨#[47,120]⟩,.bool false,.string ⟨#[]⟩] 45)) (he:Env W) (hf:FL W):Calls Tryz.prog 12 #[.slice (some ⟨N,0,none⟩) 1 1] W fun e w'=>e= .returned (.tuple #[.agg #[.slice none 0 0,.slice none 0 0,.slice none 0 0,.slice none 0 0,.slice none 0 0,.slice none 0 0,.bool false],.int .i64 43])∧Below W.heap.size W w':=by
 have hfl:FlsAt W (.slice (some ⟨N,0,none⟩) 1 1) [xF]:=by
  refine ⟨_,1,rfl,Nat.le_refl _,fun i hi=>⟨N,0,rfl,?_⟩⟩;obtain rfl:i=0:=by simp at hi;omega
  refine ⟨⟨?_,?_,?_⟩,aY h⟩<;>rw [Lib.cell_of_heap h]<;>rfl
 refine (xT hfl (by simp) (by decide) (fun x hx=>by obtain rfl:=List.mem_singleton.1 hx;decide) (fun us hu=>by obtain rfl:us=[xF]:=List.perm_singleton.1 hu;exact Gh W) he hf).mono ?_;rintro e w' ⟨sv,er,rfl,⟨_,_,h3⟩,hb⟩;obtain ⟨us,hpu,_,hno⟩:=h3 (by simp) (by decide);obtain rfl:us=[xF]:=List.perm_singleton.1 hpu.1;obtain ⟨rfl,rfl⟩:=hno Gi;exact ⟨rfl,hb⟩
set_option maxHeartbeats 6400000 in
theorem KA {w:World} (he:Env w) (hf:FL w):Calls Tryz.prog 11 #[] w fun e w'=>e= .returned (.bool true)∧Below w.heap.size w w':=by
 have HFE:Hid (∀ W B sv,Below w.heap.size w W→StOwn W B sv lA [ndZ] [drZ] false→Calls Tryz.prog 8 #[sv] W fun e w'=>∃ a c,e= .returned (.tuple #[.slice a 0 c,.int .i64 0])∧Below W.heap.size W w'):=fun W B sv hb hs=>NX hs (he.below hb) (hf.below hb)
 have HRE:Hid (∀ W,Below w.heap.size w W→Calls Tryz.prog 12 #[.slice none 0 0] W fun e w'=>∃ a1 n1 c1 a2 n2 c2 a3 n3 c3 a4 n4 c4 ag cg at_ ct,e= .returned (.tuple #[.agg #[.slice a1 n1 c1,.slice a2 n2 c2,.slice a3 n3 c3,.slice a4 n4 c4,.slice ag 1 cg,.slice at_ 1 ct,.bool false],.int .i64 0])∧Below W.heap.size W w'):=fun W _=>UR W
 have HRX:Hid (∀ W,Below w.heap.size w W→Calls Tryz.prog 12 #[.slice (some ⟨W.heap.size,0,none⟩) 1 1] (W.alloc (.cells #[.string ⟨#[47,120]⟩,.bool false,.string ⟨#[]⟩] 45)) fun e w'=>e= .returned (.tuple #[.agg #[.slice none 0 0,.slice none 0 0,.slice none 0 0,.slice none 0 0,.slice none 0 0,.slice none 0 0,.bool false],.int .i64 43])∧Below W.heap.size W w'):=fun W hb=>(US (World.alloc_heap_new W _) (he.below (aA hb (aC _ _))) (hf.below (aA hb (aC _ _)))).mono fun e w' h=>⟨h.1,aA (aC _ _) h.2⟩
 clear he hf
 go_enter Tryz.func11,Tryz.ntmps11
 go_upto_region 2 with (first
  |(have _t:=HS1;go_at_call 8;refine (HFE.out _ _ _ HB1.out HS1.out).mono ?_;rintro e W2 ⟨fa,fc,rfl,ok⟩;have HB2:=aB (aA HB1.out ok);clear ok HS1)
  |(go_at_call 33;refine (pF _).mono ?_;rintro e W1 ⟨g1,g2,rfl,h1,h2,hB1,hB2,ok⟩;have HS1:=aB (JW h1 h2 hB1 hB2);have HB1:=aB ok;clear h1 h2 hB1 hB2 ok))
 go_upto_region 3 with (go_at_call 12;refine (HRE.out _ HB2.out).mono ?_;rintro e W3 ⟨a1,n1,c1,a2,n2,c2,a3,n3,c3,a4,n4,c4,ag,cg,at_,ct,rfl,ok⟩;have HB3:=aB (aA HB2.out ok);clear ok)
 obtain ⟨U3,hU3⟩:∃ U,U=W3.alloc (.cells #[.slice a1 n1 c1,.slice a2 n2 c2,.slice a3 n3 c3,.slice a4 n4 c4,.slice ag 1 cg,.slice at_ 1 ct,.bool false] 32):=⟨_,rfl⟩;have HBU:Hid (Below w.heap.size w U3):=by rw [hU3];exact aA HB3.out (aC _ _)
 have HNU:Hid (U3.heap[W3.heap.size]? =some (.cells #[.slice a1 n1 c1,.slice a2 n2 c2,.slice a3 n3 c3,.slice a4 n4 c4,.slice ag 1 cg,.slice at_ 1 ct,.bool false] 32)):=by rw [hU3];exact World.alloc_heap_new W3 _
 rw [←hU3];clear hU3
 go_upto_region 4 with (go_at_call 12;refine (HRX.out _ HBU.out).mono ?_;rintro e W4 ⟨rfl,ok⟩;have HB4:=aB (aA HBU.out ok);have HN4:Hid (W4.heap[W3.heap.size]? =some (.cells #[.slice a1 n1 c1,.slice a2 n2 c2,.slice a3 n3 c3,.slice a4 n4 c4,.slice ag 1 cg,.slice at_ 1 ct,.bool false] 32)):=(ok.block _ (aY HNU.out)).trans HNU.out;clear ok)
 obtain ⟨U4,hU4⟩:∃ U,U=W4.alloc stZ:=⟨_,rfl⟩;have HB5:Hid (Below w.heap.size w U4):=by rw [hU4];exact aA HB4.out (aC _ _)
 have HN5:Hid (U4.heap[W3.heap.size]? =some (.cells #[.slice a1 n1 c1,.slice a2 n2 c2,.slice a3 n3 c3,.slice a4 n4 c4,.slice ag 1 cg,.slice at_ 1 ct,.bool false] 32)):=by rw [hU4];exact ((aC W4 stZ).block _ (aY HN4.out)).trans HN4.out
 rw [←hU4];clear hU4;have x4:U4.cell? ⟨W3.heap.size,4,none⟩=some (.slice ag 1 cg):=by rw [Lib.cell_of_heap HN5.out];rfl
 have x5:U4.cell? ⟨W3.heap.size,5,none⟩=some (.slice at_ 1 ct):=by rw [Lib.cell_of_heap HN5.out];rfl
 go_wp2_with fail
 go_ret;exact ⟨rfl,HB5.out⟩
end Go.Proofs.YtmnhnofnlcbliaaGreatDoor
namespace Go.Proofs.YtmnhnofnlcbliaaGreatDoor
open Go.RowKit
set_option maxRecDepth 100000
theorem NY (P:Mn) (G:List Nd) (L:List Dr) (pr:Bool):(dJ P G L pr).length≤1000000000000:=by
 unfold dJ
 split
 · rename_i h
   have hk:=Bn (kZ (rZ h.1)).1;rw [(cM hk pr (aF P) (Lo.prT G)).2.2];have hl:=hk.len;have h1:(gN pr).length≤3:=by unfold gN;cases pr<;>simp
   have h2:((L.drop 1).flatMap (nT L)).length≤(L.drop 1).length*3:=by
    generalize L.drop 1=A
    induction A with
    |nil=>simp
    |cons d A ih=>
     rw [List.flatMap_cons,List.length_append,List.length_cons]
     have:(nT L d).length≤3:=by unfold nT;split<;>simp
     omega
   have h3:(if 1<L.length then [Ca.mod []] else []).length≤1:=by split<;>simp
   rw [wG,List.length_append,List.length_append];rw [List.length_drop] at h2;omega
 · simp
end Go.Proofs.YtmnhnofnlcbliaaGreatDoor
