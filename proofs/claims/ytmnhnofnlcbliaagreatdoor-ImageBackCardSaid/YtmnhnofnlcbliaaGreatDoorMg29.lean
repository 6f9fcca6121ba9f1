/- Io1, Dk1, Dk2, Od1, Id1, Iy0, Id2, Iz1, Iz2, Iy1, Iy2: their declarations that are needed, laid in one text, remarks and blanks left out. -/
import Derived.Laws.StructEq
import Derived.Maps.Ext
import Derived.Deep.Light
import Derived.Sort.KeysCollected
import Derived.Deep.DeepHandedRow
import Derived.Deep.DeepWitnessRowRef
import Derived.Test.YtmnhnofnlcbliaaGreatDoorMg28
namespace Go.Proofs.YtmnhnofnlcbliaaGreatDoor
open Go.RowKit Go.Lib Go.Sort
set_option maxRecDepth 100000
structure SamePP (L M:List Dr):Prop where
 len:L.length=M.length
 at_:∀ i (h:i<L.length) (h2:i<M.length),L[i].pa=M[i].pa∧L[i].pk=M[i].pk
theorem SamePP.pas {L M:List Dr} (h:SamePP L M):L.map Dr.pa=M.map Dr.pa:=by
 refine List.ext_getElem (by simp [h.len]) fun i h1 h2=> ?_
 rw [List.getElem_map,List.getElem_map];exact (h.at_ i (by simpa using h1) (by simpa using h2)).1
theorem BA (L:List Dr) (p:List ByteArray):bT L p=match (L.map Dr.pa).findIdx? (fun q=>eqB q p) with
 |some i=>(i:Int)
 |none=> -1:=by
 unfold bT;rw [List.findIdx?_map];rfl
theorem SamePP.find {L M:List Dr} (h:SamePP L M) (p:List ByteArray):bT L p=bT M p:=by rw [BA,BA,h.pas]
theorem SamePP.lookN {L M:List Dr} (h:SamePP L M) (p:List ByteArray) (s:ByteArray):∀ k,lookN L p s k=lookN M p s k
 |0=>h.find _
 |k+1=>by
  show (if bT L (p.take (k+1)++[s])= -1 then _ else _)=(if bT M (p.take (k+1)++[s])= -1 then _ else _);rw [h.find,SamePP.lookN h p s k]
theorem SamePP.look {L M:List Dr} (h:SamePP L M) (f:Int) (s:ByteArray):cR L f s=cR M f s:=by
 unfold cR
 by_cases c:0≤f∧f.toNat<L.length∧Sc.aK s.data.toList=true
 · have c2:0≤f∧f.toNat<M.length∧Sc.aK s.data.toList=true:=⟨c.1,by rw [←h.len];exact c.2.1,c.2.2⟩
   rw [dif_pos c,dif_pos c2,(h.at_ _ c.2.1 c2.2.1).1,h.lookN]
 · have c2:¬ (0≤f∧f.toNat<M.length∧Sc.aK s.data.toList=true):=fun q=>c ⟨q.1,by rw [h.len];exact q.2.1,q.2.2⟩
   rw [dif_neg c,dif_neg c2]
theorem SamePP.isOf {L M:List Dr} (h:SamePP L M) (k:Nat) (n:Nd):gH (L.getD k drZ) n=gH (M.getD k drZ) n:=by
 by_cases c:k<L.length
 · have c2:k<M.length:=by rw [←h.len];exact c
   rw [List.getD_eq_getElem?_getD,List.getD_eq_getElem?_getD,List.getElem?_eq_getElem c,List.getElem?_eq_getElem c2];unfold gH;simp only [Option.getD_some];simp only [(h.at_ k c c2).2]
 · have c2:¬ k<M.length:=by rw [←h.len];exact c
   rw [List.getD_eq_getElem?_getD,List.getD_eq_getElem?_getD,List.getElem?_eq_none (by omega),List.getElem?_eq_none (by omega)]
theorem SamePP.step {L M:List Dr} (h:SamePP L M) (G:List Nd) (r:Nat) (st:MS) (e:Eg):gL L G r st e=gL M G r st e:=by
 unfold gL;rw [h.look,h.isOf]
theorem SamePP.edges {L M:List Dr} (h:SamePP L M) (G:List Nd) (r:Nat):∀ es st,eN L G r es st=eN M G r es st
 |[],_=>rfl
 |e::es,st=>by
  show (gL L G r st e).bind (eN L G r es)=(gL M G r st e).bind (eN M G r es);rw [h.step,funext (SamePP.edges h G r es)]
theorem SamePP.run {L M:List Dr} (h:SamePP L M) (G:List Nd):∀ n i st,kS L G n i st=kS M G n i st
 |0,_,_=>rfl
 |n+1,i,st=>by
  unfold kS;cases st.q[i]? with
  |none=>rfl
  |some r=>
   show (eN L G r (iH G st r) st).bind (kS L G n (i+1))=(eN M G r (iH G st r) st).bind (kS M G n (i+1));rw [h.edges,funext (SamePP.run h G n (i+1))]
theorem SamePP.mapS {L M:List Dr} (h:SamePP L M) (G:List Nd):iN L G=iN M G:=by
 unfold iN;rw [h.len,h.run]
structure IOk (P:Mn) (G:List Nd) (L:List Dr):Prop where
 man:aN P=true
 lok:Lo.eO G=true
 chk:cH L=true
 led:eM G=true
 srt:tP L=true
 nds:L.map Dr.nd=fV L G
theorem iOk {P:Mn} {G:List Nd} {L:List Dr} (h:fW P G L=true):IOk P G L:=by
 have hz:=kZ (rZ h);unfold fW at h;simp only [Bool.and_eq_true] at h;exact ⟨h.1.1,h.1.2,hz.1,hz.2.1,h.2.2.1,eW.1 h.2.2.2⟩
theorem IOk.ok {P:Mn} {G:List Nd} {L:List Dr} (h:IOk P G L):TrOk L:=Bn h.chk
theorem IOk.root {P:Mn} {G:List Nd} {L:List Dr} (h:IOk P G L) (h0:0<L.length):L[0]=drZ:=by
 have q:=(cZ.1 h.chk).2.1;rw [mP h0] at q;unfold nZ at q;rw [Bool.and_eq_true,Bool.and_eq_true,decide_eq_true_iff,decide_eq_true_iff,eW] at q;obtain ⟨⟨q1,q2⟩,q3⟩:=q;have q4:=List.eq_nil_of_length_eq_zero q1;revert q2 q3 q4;generalize L[0]=d;intro q2 q3 q4;obtain ⟨a,b,c⟩:=d
 simp only at q2 q3 q4
 rw [q2,q3,q4];rfl
theorem IOk.next {P:Mn} {G:List Nd} {L:List Dr} (h:IOk P G L) {i:Nat} (hi:i+1<L.length):eF (aH L[i].pa) (aH L[i+1].pa)<0:=by
 have hs:=h.srt;unfold tP at hs;have hs:= @of_decide_eq_true _ (Classical.propDecidable _) hs
 rcases tL.tri (aH L[i].pa) (aH L[i+1].pa) with q|q|q
 · exact q
 · exact absurd q (h.ok.apart (by omega) hi (by omega))
 · exact absurd q (hs i hi)
theorem IOk.rise {P:Mn} {G:List Nd} {L:List Dr} (h:IOk P G L):L.Pairwise fun x y=>eF (aH x.pa) (aH y.pa)<0:=by
 rw [List.pairwise_iff_getElem];intro i j hi hj hij
 induction j with
 |zero=>omega
 |succ j ih=>
  rcases Nat.lt_or_ge i j with q|q
  · exact tL.trans _ _ _ (ih (by omega) q) (h.next hj)
  · obtain rfl:i=j:=by omega
    exact h.next hj
theorem QR {pr:Bool} {L:List Dr}:Ca.man ∈ caD pr L:=by unfold caD gN;simp
theorem Cm {pr:Bool} {L:List Dr}:Ca.lok ∈ caD pr L:=by unfold caD gN;simp
theorem QS {pr:Bool} {L:List Dr}:Ca.pru ∈ caD pr L↔pr=true:=by
 unfold caD gN;simp only [List.mem_append]
 constructor
 · rintro ((h|h)|h)
   · cases pr
     · simp at h
     · rfl
   · split at h
     · rw [List.mem_singleton] at h
       cases h
     · cases h
   · obtain ⟨d,_,hd⟩:=List.mem_flatMap.1 h
     rcases List.mem_append.1 hd with q|q
     · simp at q
     · split at q
       · rw [List.mem_singleton] at q
         cases q
       · cases q
 · rintro rfl
   exact Or.inl (Or.inl (by simp))
theorem Cn {pr:Bool} {L:List Dr} {d:Dr}:Ca.pkg d ∈ caD pr L↔d ∈ L.drop 1:=by
 rw [wG];simp only [List.mem_append]
 constructor
 · rintro ((h|h)|h)
   · rcases qJ h with q|q|q<;>cases q
   · split at h
     · rw [List.mem_singleton] at h
       cases h
     · cases h
   · obtain ⟨e,he,hd⟩:=List.mem_flatMap.1 h
     unfold nT at hd
     rcases List.mem_append.1 hd with q|q
     · simp at q
       rw [q];exact he
     · split at q
       · rw [List.mem_singleton] at q
         cases q
       · cases q
 · intro h
   exact Or.inr (List.mem_flatMap.2 ⟨d,h,by unfold nT;simp⟩)
theorem NJ {P:Mn} {G:List Nd} {L:List Dr} {pr:Bool} (h:IOk P G L) {mt lt:ByteArray}:aQ mt lt pr L≠[]:=fun e=>by
 obtain ⟨_,f1,_⟩:=cM h.ok pr mt lt;have q:caF mt lt .man ∈ aQ mt lt pr L:=(f1 _).2 ⟨.man,QR,rfl⟩;rw [e] at q;cases q
theorem NK {G:List Nd} (h:Lo.eO G=true) (h1:G.length=1):G=[ndZ]:=by
 match G,h1 with
 |[n],_=>
  unfold Lo.eO at h;simp only [Bool.and_eq_true,decide_eq_true_eq,List.all_eq_true] at h;obtain ⟨⟨⟨_,h2⟩,_⟩,h4⟩:=h;have h5:=h4 n (by simp);obtain ⟨nm,a,b,c,cx,ed⟩:=n;unfold Lo.jI at h2;simp only [Bool.and_eq_true,decide_eq_true_eq] at h2;obtain ⟨⟨h6,rfl,rfl,rfl⟩,h7⟩:=h2;obtain rfl:=List.eq_nil_of_length_eq_zero h7
  have hed:ed=[]:=by
   cases ed with
   |nil=>rfl
   |cons e r=>
    unfold Lo.dE Lo.tN at h5;simp only [Bool.and_eq_true,decide_eq_true_eq,List.length_nil] at h5;omega
  subst hed
  have hnm:nm=⟨#[]⟩:=by
   obtain ⟨⟨l⟩⟩:=nm
   have:l.length=0:=h6
   rw [List.eq_nil_of_length_eq_zero this]
  rw [hnm];rfl
theorem BB {P:Mn} {G:List Nd} {L:List Dr} {pr:Bool} (h:IOk P G L) (he:fM P G L pr=true):L=[drZ]∧G=[ndZ]∧P=lA∧pr=false:=by
 unfold fM at he;simp only [Bool.and_eq_true,beq_iff_eq,Bool.not_eq_true',eW] at he;obtain ⟨h1,h2,h3,h4⟩:=he;refine ⟨?_,NK h.lok (by omega),h1,h4⟩;have hl:L.length=1:=by omega
 have h0:=h.root (by omega);obtain ⟨d,rfl⟩:=List.length_eq_one_iff.1 hl;exact congrArg (fun x=>[x]) h0
theorem NL {P:Mn} {G:List Nd} {L:List Dr}:erI P G L=0↔fW P G L=true:=by
 unfold erI
 split
 · rename_i h
   exact ⟨fun _=>h,fun _=>rfl⟩
 · rename_i h
   exact ⟨fun q=>(by cases q),fun q=>absurd q h⟩
end Go.Proofs.YtmnhnofnlcbliaaGreatDoor
namespace Go.Proofs.YtmnhnofnlcbliaaGreatDoor.Dk
open Go.RowKit
open Go.RowKit Go.Maps Go.WideMaps Go.WideElems
set_option maxRecDepth 100000
open Go.RowKit Go.Maps Go.WideMaps Go.WideElems Go.Sort Go.Shelf
def sE (b:UInt8):Bool:=(decide (97≤b.toNat)&&decide (b.toNat≤122))||(decide (48≤b.toNat)&&decide (b.toNat≤57))||b.toNat==46||b.toNat==45
def dP (l:List UInt8):Bool:= !(l.length==0)&&decide (l.length≤24)&& !(l==[46])&& !(l==[46,46])&&l.all sE
theorem sF (s:ByteArray):s.data.toList.length=s.size:=rfl
theorem JI (s:ByteArray):s.toList=s.data.toList:=ByteArray.toList_eq s
def tD:ByteArray:=⟨#[47]⟩
def ZH (s:ByteArray):Bool:=s.toList==[47]||(decide (s.size≤4096)&&Lib.hasPrefix s.data.toList [47]&&(Lib.splitB tD 0 (Lib.countB (s.extract 1 s.size) tD) (s.extract 1 s.size)).all fun p=>dP p.data.toList)
def mU (s:ByteArray):Bool:=ZH s&& !(s.toList==[47])
abbrev Fl:=ByteArray×Bool×ByteArray
end Go.Proofs.YtmnhnofnlcbliaaGreatDoor.Dk
namespace Go.Proofs.YtmnhnofnlcbliaaGreatDoor.Dk
open Go.RowKit Go.Maps Go.WideMaps Go.WideElems Go.Sort Go.Shelf
set_option maxRecDepth 100000
open Go.RowKit
open Go.RowKit Go.Maps
def tT:List UInt8→List (List UInt8)
 |[]=>[[]]
 |c::r=>if c=47 then []::tT r else match tT r with
  |h::t=>(c::h)::t
  |[]=>[[c]]
theorem tE:∀ l:List UInt8,Lib.splitK [47] 0 (Lib.count l [47]) l=tT l
 |[]=>by rw [Lib.count_one];rfl
 |c::r=>by
  have ih:=tE r
  by_cases hc:c=47
  · subst hc
    have hix:Lib.index ((47:UInt8)::r) [47]=0:=by rw [Lib.index];simp [List.isPrefixOf]
    rw [Lib.count_cons_eq,Nat.add_comm];unfold Lib.splitK tT;rw [hix,if_neg (by decide),if_pos rfl];simp [ih]
  · rw [Lib.count_cons_ne c 47 r hc]
    have hp:([47]:List UInt8).isPrefixOf (c::r)=false:=by simp [List.isPrefixOf,Ne.symm hc]
    have hix:Lib.index (c::r) [47]=if Lib.index r [47]== -1 then -1 else Lib.index r [47]+1:=by rw [Lib.index,hp];simp
    unfold tT;rw [if_neg hc,←ih];cases hk:Lib.count r [47] with
    |zero=>rfl
    |succ k=>
     have hm:Lib.index r [47]≠ -1:=fun e=>by rw [Lib.count_miss e] at hk;cases hk
     have hge:=Lib.index_ge r [47];unfold Lib.splitK;rw [hix];have e1:(Lib.index r [47]== -1)=false:=beq_eq_false_iff_ne.2 hm;rw [e1];simp only [Bool.false_eq_true,if_false];rw [if_neg (by simp;omega)];have e2:(Lib.index r [47]+1).toNat=(Lib.index r [47]).toNat+1:=by omega
     rw [e2]
     simp
def eR (cur r:List UInt8):Bool:=match tT r with
 |h::t=>dP (cur++h)&&t.all dP
 |[]=>dP cur
theorem DC (r:List UInt8):∃ h t,tT r=h::t:=by
 cases r with
 |nil=>exact ⟨[],[],rfl⟩
 |cons c r=>
  unfold tT
  split
  · exact ⟨_,_,rfl⟩
  · split<;>exact ⟨_,_,rfl⟩
theorem NM (cur:List UInt8):eR cur []=dP cur:=by simp [eR,tT]
theorem DD (cur r:List UInt8):eR cur (47::r)=(dP cur&&eR [] r):=by
 obtain ⟨h,t,e⟩:=DC r;simp [eR,tT,e]
theorem qV (cur r:List UInt8) (c:UInt8) (hc:c≠47):eR cur (c::r)=eR (cur++[c]) r:=by
 obtain ⟨h,t,e⟩:=DC r;simp [eR,tT,e,hc]
theorem NN (r:List UInt8):eR [] r=(tT r).all dP:=by
 obtain ⟨h,t,e⟩:=DC r;simp [eR,e]
theorem DE (s:ByteArray) (a b:Nat):(s.extract a b).data.toList=(s.data.toList.drop a).take (b - a):=by
 rw [ByteArray.data_extract,Array.toList_extract]
theorem tF (s:ByteArray):mU s=(decide (2≤s.size)&&decide (s.size≤4096)&&(s.data.toList.head? ==some 47)&&eR [] (s.data.toList.drop 1)):=by
 have hsp:(Lib.splitB tD 0 (Lib.countB (s.extract 1 s.size) tD) (s.extract 1 s.size)).all (fun p=>dP p.data.toList)=eR [] (s.data.toList.drop 1):=by
  have e:(s.extract 1 s.size).data.toList=s.data.toList.drop 1:=by rw [DE,List.take_of_length_le (by rw [List.length_drop,sF];omega)]
  have h1:=Lib.splitB_data tD 0 (Lib.countB (s.extract 1 s.size) tD) (s.extract 1 s.size);have h2:Lib.countB (s.extract 1 s.size) tD=Lib.count (s.extract 1 s.size).data.toList [47]:=rfl;rw [NN,←tE,←e,←h2];have h3:tD.data.toList=[47]:=rfl;rw [h3] at h1;rw [←h1,List.all_map];rfl
 unfold mU ZH;rw [hsp,JI];cases hl:s.data.toList with
 |nil=>
  have:s.size=0:=by rw [←sF,hl];rfl
  simp [Lib.hasPrefix,this]
 |cons a t=>
  have hsz:s.size=t.length+1:=by rw [←sF,hl];rfl
  rw [hsz];cases t with
  |nil=>
   simp [Lib.hasPrefix];rintro (h|⟨h,_⟩)
   · exact h
   · exact h.symm
  |cons b t=>
   have h1:(a::b::t==[47])=false:=by simp
   rw [h1];have h2:decide (2≤(b::t).length+1)=true:=by simp
   rw [h2]
   have h3:Lib.hasPrefix (a::b::t) [47]=((a::b::t).head? ==some 47):=by
    simp only [Lib.hasPrefix,List.isPrefixOf,List.head?_cons,Bool.and_true];rw [Bool.eq_iff_iff];simp;exact eq_comm
   rw [h3];simp
end Go.Proofs.YtmnhnofnlcbliaaGreatDoor.Dk
namespace Go.Proofs.YtmnhnofnlcbliaaGreatDoor
open Go.RowKit
set_option maxRecDepth 100000
theorem ZI {s:ByteArray} (h:Dk.mU s=true):s.size≤4096:=by
 unfold Dk.mU Dk.ZH at h;simp only [Bool.and_eq_true,Bool.or_eq_true,Bool.not_eq_true',decide_eq_true_eq] at h
 rcases h with ⟨h1|h1,h2⟩
 · rw [h1] at h2
   cases h2
 · exact h1.1.1
end Go.Proofs.YtmnhnofnlcbliaaGreatDoor
namespace Go.Proofs.YtmnhnofnlcbliaaGreatDoor
open Go.RowKit Go.Lib Go.Sort
set_option maxRecDepth 100000
def flF (x:Fi):Dk.Fl:=(x.pa,x.dr,x.da)
def ZJ:Sc.Bs:=[109,111,100,117,108,101,115]
theorem ZK {t:Sc.Bs} (h:Sc.aK t=true):∀ c ∈ t,c≠47:=fun c hc e=>by
 subst e;unfold Sc.aK at h;simp only [Bool.and_eq_true,List.all_eq_true] at h;have q:=h.1.2 _ hc;revert q;decide
theorem Co {b:UInt8} (h:Sc.nmB b=true):Dk.sE b=true:=by
 unfold Sc.nmB Sc.ltB Sc.dgB at h;unfold Dk.sE;simp only [Bool.or_eq_true,Bool.and_eq_true,decide_eq_true_eq,beq_iff_eq] at*
 rcases h with (h|h)|h
 · exact Or.inl (Or.inl (Or.inl h))
 · exact Or.inl (Or.inl (Or.inr h))
 · exact Or.inr h
theorem Cp {t:Sc.Bs} (h:Sc.aK t=true):Dk.dP t=true:=by
 unfold Sc.aK at h;simp only [Bool.and_eq_true,List.all_eq_true,decide_eq_true_eq] at h;obtain ⟨⟨h1,h2⟩,h3⟩:=h;have e0:t≠[]:=fun e=>by subst e;revert h1;decide
 have e1:t≠[46]:=fun e=>by subst e;revert h1;decide
 have e2:t≠[46,46]:=fun e=>by subst e;revert h1;decide
 have hl:t.length≠0:=fun e=>e0 (List.eq_nil_of_length_eq_zero e)
 unfold Dk.dP;simp only [Bool.and_eq_true,Bool.not_eq_true',beq_eq_false_iff_ne,decide_eq_true_eq,List.all_eq_true];exact ⟨⟨⟨⟨hl,by omega⟩,e1⟩,e2⟩,fun c hc=>Co (h2 c hc)⟩
theorem sG:∀ {l:Sc.Bs} {cur:Sc.Bs},(∀ c ∈ l,c≠47)→∀ r,Dk.eR cur (l++47::r)=(Dk.dP (cur++l)&&Dk.eR [] r)
 |[],cur,_,r=>by rw [List.nil_append,Dk.DD,List.append_nil]
 |c::l,cur,h,r=>by
  rw [List.cons_append,Dk.qV _ _ _ (h c (by simp)),sG (fun x hx=>h x (List.mem_cons_of_mem _ hx)),List.append_assoc];rfl
theorem sH:∀ {l:Sc.Bs} {cur:Sc.Bs},(∀ c ∈ l,c≠47)→Dk.eR cur l=Dk.dP (cur++l)
 |[],cur,_=>by rw [Dk.NM,List.append_nil]
 |c::l,cur,h=>by
  rw [Dk.qV _ _ _ (h c (by simp)),sH (fun x hx=>h x (List.mem_cons_of_mem _ hx)),List.append_assoc];rfl
def TailOk (t:Sc.Bs):Prop:=t=[]∨∃ r,t=47::r∧Dk.eR [] r=true
theorem TailOk.one {l:Sc.Bs} (h:∀ c ∈ l,c≠47) (hp:Dk.dP l=true):TailOk (47::l):=Or.inr ⟨l,rfl,by rw [sH h];exact hp⟩
theorem TailOk.more {l t:Sc.Bs} (h:∀ c ∈ l,c≠47) (hp:Dk.dP l=true) (ht:TailOk t):Dk.eR [] (l++t)=true:=by
 rcases ht with rfl|⟨r,rfl,hr⟩
 · rw [List.append_nil,sH h]
   exact hp
 · rw [sG h,hr,Bool.and_true]
   exact hp
theorem QT:∀ c ∈ ZJ,c≠47:=by decide
theorem BC:Dk.dP ZJ=true:=by decide
theorem TailOk.text:∀ {p:List ByteArray} {t:Sc.Bs},aT p=true→TailOk t→TailOk (aZ p++t)
 |[],_,_,ht=>ht
 |s::p,t,hp,ht=>by
  unfold aT at hp;rw [List.all_cons,Bool.and_eq_true] at hp;have ih:=TailOk.text (p:=p) (t:=t) hp.2 ht;refine Or.inr ⟨ZJ++47::(s.data.toList++(aZ p++t)),?_,?_⟩
  · rw [dA]
    show 47::(ZJ++47::(s.data.toList++aZ p))++t=_
    simp
  · rw [sG QT,List.nil_append,BC,Bool.true_and]
    exact TailOk.more (ZK hp.1) (Cp hp.1) ih
theorem TailOk.path {s:ByteArray} (h:TailOk s.data.toList) (h0:s.data.toList≠[]) (hz:s.size≤4096):Dk.mU s=true:=by
 rcases h with h|⟨r,e,hr⟩
 · exact absurd h h0
 · have hr0:r≠[]:=fun q=>by subst q;revert hr;decide
   have hl:s.size=r.length+1:=by rw [←aI,e,List.length_cons]
   have:=List.length_pos_iff.2 hr0
   rw [Dk.tF,e];simp only [Bool.and_eq_true,decide_eq_true_eq,List.head?_cons,beq_self_eq_true,List.drop_succ_cons,List.drop_zero];exact ⟨⟨⟨by omega,hz⟩,trivial⟩,hr⟩
def ctl:Ca→Sc.Bs
 | .man=>kF.data.toList
 | .lok=>gW.data.toList
 | .pru=>qH.data.toList
 | .mod _=>kE.data.toList
 | .dir _=>[]
 | .pkg _=>fH.data.toList
theorem DF (mt lt:ByteArray) (a:Ca):(caF mt lt a).pa.data.toList=aZ (XZ a)++ctl a:=by
 cases a with
 |man=>rfl
 |lok=>rfl
 |pru=>rfl
 |mod p=>show (aO p++kE).data.toList=_;rw [cG,fQ];rfl
 |dir p=>show (aO p).data.toList=_;rw [fQ];exact (List.append_nil _).symm
 |pkg d=>show (aO d.pa++fH).data.toList=_;rw [cG,fQ];rfl
theorem Fc (a:Ca):TailOk (ctl a)∧(ctl a).length≤9:=by
 cases a with
 |dir p=>exact ⟨Or.inl rfl,Nat.le_of_ble_eq_true rfl⟩
 |man=>exact ⟨TailOk.one (l:=[109,97,110,105,102,101,115,116]) (by decide) (by decide),by decide⟩
 |lok=>exact ⟨TailOk.one (l:=[108,111,99,107]) (by decide) (by decide),by decide⟩
 |pru=>exact ⟨TailOk.one (l:=[112,114,117,110,101,100]) (by decide) (by decide),by decide⟩
 |mod p=>exact ⟨TailOk.one (l:=ZJ) QT BC,Nat.le_of_ble_eq_true rfl⟩
 |pkg d=>exact ⟨TailOk.one (l:=[112,97,99,107,97,103,101]) (by decide) (by decide),Nat.le_of_ble_eq_true rfl⟩
theorem ZL {L:List Dr} (h:TrOk L) {pr:Bool} {a:Ca} (ha:a ∈ caP pr L):aT (XZ a)=true∧(aZ (XZ a)).length≤1024∧(ctl a=[]→XZ a≠[]):=by
 unfold caP at ha
 rcases List.mem_append.1 ha with ha|ha
 · rcases qJ ha with rfl|rfl|rfl<;>exact ⟨rfl,by decide,fun e=>by revert e;decide⟩
 · obtain ⟨d,hd,ha⟩:=List.mem_flatMap.1 ha
   obtain ⟨i,hi,hne,rfl⟩:=dO.1 hd;obtain ⟨h0,hn,hz,_⟩:=h.names i hi hne;simp only [List.mem_cons,List.not_mem_nil,or_false] at ha
   rcases ha with rfl|rfl|rfl
   · exact ⟨GS hn,Nat.le_trans (oN _ _) hz,fun e=>absurd (show kE.data.toList=[] from e) (by decide)⟩
   · exact ⟨hn,hz,fun _=>h0⟩
   · exact ⟨hn,hz,fun _=>h0⟩
theorem UH {p:List ByteArray} (hp:aT p=true) (h:aZ p=[]):p=[]:=by
 have:=kR hp
 rw [h,List.length_nil] at this;exact List.eq_nil_of_length_eq_zero (by omega)
theorem QU {L:List Dr} (h:TrOk L) {pr:Bool} (mt lt:ByteArray) {a:Ca} (ha:a ∈ caP pr L):Dk.mU (caF mt lt a).pa=true:=by
 obtain ⟨h1,h2,h3⟩:=ZL h ha;obtain ⟨h4,h5⟩:=Fc a;refine TailOk.path ?_ ?_ ?_
 · rw [DF]
   exact TailOk.text h1 h4
 · rw [DF]
   intro e;rw [List.append_eq_nil_iff] at e;exact h3 e.2 (UH h1 e.1)
 · rw [←aI,DF,List.length_append]
   omega
noncomputable def Cq (mt lt:ByteArray) (pr:Bool) (L:List Dr):List Dk.Fl:=(aQ mt lt pr L).map flF
theorem ZM {L:List Dr} (h:TrOk L) {pr:Bool} {mt lt:ByteArray} {f:Dk.Fl}:f ∈ Cq mt lt pr L↔∃ a ∈ caP pr L,flF (caF mt lt a)=f:=by
 unfold Cq;rw [List.mem_map]
 constructor
 · rintro ⟨y,hy,rfl⟩
   obtain ⟨a,ha,rfl⟩:=((cM h pr mt lt).2.1 y).1 hy;exact ⟨a,(qI h).2 ha,rfl⟩
 · rintro ⟨a,ha,rfl⟩
   exact ⟨_,((cM h pr mt lt).2.1 _).2 ⟨a,(qI h).1 ha,rfl⟩,rfl⟩
theorem UI {L:List Dr} (h:TrOk L) {pr:Bool} {mt lt:ByteArray} {f:Dk.Fl} (hf:f ∈ Cq mt lt pr L):Dk.mU f.1=true:=by
 obtain ⟨a,ha,rfl⟩:=(ZM h).1 hf;exact QU h mt lt ha
end Go.Proofs.YtmnhnofnlcbliaaGreatDoor
namespace Go.Proofs.YtmnhnofnlcbliaaGreatDoor
open Go.RowKit Go.Maps Go.WideMaps
set_option maxRecDepth 100000
def xM (w:World) (g o:Nat) (x:Fi):Prop:=(w.cell? ⟨g,o,none⟩=some (.string x.pa)∧w.cell? ⟨g,o+1,none⟩=some (.bool x.dr)∧w.cell? ⟨g,o+2,none⟩=some (.string x.da))∧g<w.heap.size
theorem xN (g o:Nat) (x:Fi):KeepP fun w=>xM w g o x:=fun _ _ h hb=>⟨⟨(hb.cell (p:=⟨g,o,none⟩) h.2).trans h.1.1,(hb.cell (p:=⟨g,o+1,none⟩) h.2).trans h.1.2.1,(hb.cell (p:=⟨g,o+2,none⟩) h.2).trans h.1.2.2⟩,Nat.lt_of_lt_of_le h.2 hb.size⟩
def FlsAt (w:World) (v:Value) (fs:List Fi):Prop:=∃ a c,v= .slice a fs.length c∧fs.length≤c∧∀ i (hi:i<fs.length),∃ g o,a=some ⟨g,o,none⟩∧xM w g (o+i*3) fs[i]
theorem FlsAt.below {w w':World} {v:Value} {fs:List Fi} (h:FlsAt w v fs) (hb:Below w.heap.size w w'):FlsAt w' v fs:=by
 obtain ⟨a,c,e,hc,hf⟩:=h;refine ⟨a,c,e,hc,fun i hi=> ?_⟩;obtain ⟨g,o,e,h⟩:=hf i hi;exact ⟨g,o,e,xN _ _ _ _ _ h hb⟩
set_option maxHeartbeats 2000000 in
theorem ZN (n:Nat) (hn:1≤n) (l Bm:Nat) {w:World} {a:Option Addr} {c:Nat} {ts:List Fi} (hts:∀ i (hi:i<ts.length),∃ g o,a=some ⟨g,o,none⟩∧xM w g (o+i*3) ts[i]) (hz:ts.length≤1000000) (J:List Fi→World→Prop)
 (hJb:∀ V W1,J V W1→Below w.heap.size w W1)
 (hY:∀ pre x W,J pre W→pre.length<ts.length→YieldAt Fence.wide (n - 1) Tryz.prog l #[iZ x] W fun e W'=>e= .returned (.bool true)∧J (pre++[x]) W'∧KeepsWalks W W')
 (W:World) (hJ:AbidesFrom W.heap.size J) (hm:w.cell? ⟨Bm,0,none⟩=some (.slice a ts.length c)) (hBm:Bm<w.heap.size) (h0:J [] W):
 CallsIn Fence.wide n Tryz.prog 85 #[.func (.yield l) #[] #[],.pointer (some ⟨Bm,0,none⟩)] W fun e W'=>(∃ v,e= .returned v)∧∃ V:List Fi,V=ts∧J V W':=by
 refine callsIn_of_wp Tryz.func85 rfl trivial ?_ rfl;simp only [Tryz.ntmps85,List.size_toArray,List.length_cons,List.length_nil,Nat.reduceAdd,Nat.reduceSub,Array.replicate_succ,Array.replicate_zero,List.push_toArray,List.append_toArray,List.nil_append,List.cons_append];have hm0:W.cell? ⟨Bm,0,none⟩=some (.slice a ts.length c):=((hJb _ _ h0).cell (p:=⟨Bm,0,none⟩) hBm).trans hm
 gi_wp2
 gi_loopw [7] (fun vi wr=>∃ k:Nat,k≤ts.length∧vi= .int .i64 k∧J (ts.take k) wr) (fun vi _=>ts.length - (intOf vi).toNat)
 case atStart=>exact ⟨0,Nat.zero_le _,rfl,by rw [List.take_zero];exact h0⟩
 case round=>
  obtain ⟨k,hk,rfl,hJs⟩:=hrel
  by_cases hlt:k<ts.length
  · have hki:(k:Int)<(ts.length:Int):=by omega
    obtain ⟨g,o,rfl,hfl⟩:=hts k hlt;obtain ⟨⟨f0,f1,f2⟩,_⟩:=xN _ _ _ _ _ hfl (hJb _ _ hJs);have hJ3:J (ts.take k) (wr.alloc (.cells #[.string ts[k].pa,.bool ts[k].dr,.string ts[k].da] 45)):=hJ _ wr _ none hJs (World.grownBy_alloc _ _ _) (fun r e=>by cases e);have hen:ts.take (k+1)=ts.take k++[ts[k]]:=List.take_succ_eq_append_getElem hlt;obtain ⟨fn,tmps,assign,body,hy,hR⟩:=hY (ts.take k) ts[k] _ hJ3 (by rw [List.length_take];omega);rw [←hen] at hR;unfold iZ at hy;clear hen hfl hJs hJ3;generalize ts[k]=x at*
    gi_wp2
    refine hR.mono ?_;rintro e W3 ⟨rfl,hJ4,hk3⟩
    gi_wp2
    go_roundw
    case rel=>exact ⟨k+1,by omega,by go_num,hJ4⟩
    case measure=>simp [intOf];omega
  · obtain rfl:k=ts.length:=by omega
    rw [List.take_length] at hJs
    gi_wp2
    go_end0
    exact ⟨⟨_,rfl⟩,ts,rfl,hJs⟩
theorem JJ (n:Nat) (hn:1≤n) (Bm:Nat) {w:World} {a:Option Addr} {c:Nat} {ts:List Fi} (hts:∀ i (hi:i<ts.length),∃ g o,a=some ⟨g,o,none⟩∧xM w g (o+i*3) ts[i]) (hz:ts.length≤1000000) (hm:w.cell? ⟨Bm,0,none⟩=some (.slice a ts.length c)) (hBm:Bm<w.heap.size):
 RG Fence.wide n Tryz.prog 85 #[.pointer (some ⟨Bm,0,none⟩)] iZ (fun V=>V=ts) ts.length w:=fun l J W _ hJ hJb hY h0=>
 ZN n hn l Bm hts hz J hJb hY W hJ hm hBm h0
theorem JK (a:Option Addr) (k c:Nat) (w:World):Calls Tryz.prog 34 #[.slice a k c] w fun e w'=>e= .returned (.func (.func 85) #[] #[.pointer (some ⟨w.heap.size,0,none⟩)])∧w'=w.alloc (.cells #[.slice a k c] 33):=by
 go_enter Tryz.func34,Tryz.ntmps34
 go_wp2
 go_ret;exact ⟨rfl,rfl⟩
theorem JL {w:World} {a:Option Addr} {c:Nat} {ts:List Fi} (h:FlsAt w (.slice a ts.length c) ts) (hz:ts.length≤1000000):
 Calls Tryz.prog 23 #[.func (.func 85) #[] #[.pointer (some ⟨w.heap.size,0,none⟩)]] (w.alloc (.cells #[.slice a ts.length c] 33)) fun e w'=>∃ (v:Value) (us:List Fi),e= .returned v∧(us.Perm ts∧oL us)∧w'.ownsRow w.heap.size 45 3 v us.length (us.flatMap dY)∧Below w.heap.size w w':=by
 have hb:Below w.heap.size w (w.alloc (.cells #[.slice a ts.length c] 33)):=(Below.refl _ _).alloc (Nat.le_refl _) _;obtain ⟨a',c',e,_,hf⟩:=h.below hb;cases e;have hs:=sT 85 #[.pointer (some ⟨w.heap.size,0,none⟩)] (enters_of Tryz.func85 (by kernel_rfl) rfl) (fun V=>V=ts) ts.length hz (fun V hV=>by rw [hV];omega) _ (JJ 4 (by decide) w.heap.size hf hz (by rw [World.cell?_alloc_new];rfl) (by simp));refine hs.mono ?_;rintro e w' ⟨v,V,us,rfl,rfl,hp,ho,hbb⟩;have hsz:w.heap.size≤(w.alloc (.cells #[.slice a V.length c] 33)).heap.size:=by simp
 exact ⟨v,us,rfl,hp,⟨ho.1,ho.2.imp id fun ⟨g,cap,cur,h1,h2,r⟩=>⟨g,cap,cur,h1,Nat.le_trans hsz h2,r⟩⟩,hb.trans (hbb.mono hsz)⟩
end Go.Proofs.YtmnhnofnlcbliaaGreatDoor
namespace Go.Proofs.YtmnhnofnlcbliaaGreatDoor
open Go.RowKit Go.Lib Go.Sort
set_option maxRecDepth 100000
noncomputable def Cr (P:Mn) (G:List Nd) (L:List Dr) (pr:Bool):List Dk.Fl:=(dJ P G L pr).map flF
theorem Cs {P:Mn} {G:List Nd} {L:List Dr} {pr:Bool} (h:fW P G L=true):(Cr P G L pr=[]∧L=[drZ])∨Cr P G L pr=Cq (aF P) (Lo.prT G) pr L:=by
 unfold Cr dJ;cases he:fM P G L pr
 · rw [if_pos ⟨h,rfl⟩]
   exact Or.inr rfl
 · rw [if_neg (by simp)]
   exact Or.inl ⟨rfl,(BB (iOk h) he).1⟩
end Go.Proofs.YtmnhnofnlcbliaaGreatDoor
namespace Go.Proofs.YtmnhnofnlcbliaaGreatDoor
open Go.RowKit
set_option maxRecDepth 100000
theorem JM (fs:List Fi):(fs.flatMap dY).length=fs.length*3:=by
 induction fs with
 |nil=>rfl
 |cons x fs ih=>rw [List.flatMap_cons,List.length_append,ih,List.length_cons];simp [dY];omega
theorem ZO {fs:List Fi}:∀ u ∈ fs.flatMap dY,u.oneCell'=true:=fun u hu=>by
 obtain ⟨x,_,hx⟩:=List.mem_flatMap.1 hu;simp [dY] at hx
 rcases hx with rfl|rfl|rfl<;>rfl
def Do (w:World) (ad:Option Addr) (fs:List Fi):Prop:=(fs=[]∧ad=none)∨∃ g off,ad=some ⟨g,off,none⟩∧∀ j u,(fs.flatMap dY)[j]? =some u→w.cell? ((⟨g,off,none⟩:Addr).add j)=some u
theorem Fd {B:Nat} {wx:World} {v:Value} {ts us:List Fi} {ad:Option Addr} {n c:Nat} {ops:Array Oper} {rest:List Oper} {o:Oper} {f:Act} {Q:Exit→Act→World→Prop}
 (hgd:o.guard=none) (s t:Operand) (ho:o.op= .call { callee:= .builtin .append,args:= #[s,t],argTypes:= #[33,33] }) (hs:f.eval s=v)
 (hown:OwnFi wx B v ts) (hB:B≤wx.heap.size) (hx:f.eval t= .slice ad n c) (hn:us.length=n) (hc:Do wx ad us) (hb:ts.length+n≤1000000000)
 (h:∀ v1 w1,OwnFi w1 B v1 (ts++us)→wx.grownBy w1 v.ownBlock→wpList Tryz.prog ops Q rest (f.put o.dst v1) w1):
 wpList Tryz.prog ops Q (o::rest) f wx:=by
 obtain ⟨i0,hi,hz0,hz1,hz2⟩:=Sc.bK OK;subst hn
 rcases hc with ⟨rfl,rfl⟩|⟨g,off,rfl,hcell⟩
 · have h1:=h v wx (by rw [List.append_nil];exact hown) ⟨rfl,rfl,rfl,Nat.le_refl _,fun _ _ _=>rfl⟩
   refine wpList_plain hgd fun K hK=> ?_
   obtain ⟨base,cap,hv,hnc⟩:∃ base cap,v= .slice base ts.length cap∧ts.length≤cap:=by
    rcases hown.2 with ⟨rfl,hn⟩|⟨g,cap,cur,rfl,_,_,hc,_⟩
    · exact ⟨none,0,by rw [hn],by omega⟩
    · exact ⟨_,cap,rfl,hc⟩
   subst hv
   have hr:(Builtin.append_ #[33,33] o.type #[.slice base ts.length cap,.slice none 0 c]).run Tryz.prog wx= .ok (.slice base ts.length cap) wx:=by
    cases base<;>simp [Builtin.append_,run_underlying Tryz.underlying33,sizeOf,typeInfo,hi,Builtin.lenOf,hnc,Builtin.firstCells,loadCells,storeCells]
   unfold Oper.wp execOp;rw [List.length_nil] at hx;simp only [ho,resolve,invoke,builtin,Sem.run_bind,Sem.run_pure,Result.andThen_ok,List.map_toArray,List.map_cons,List.map_nil,hs,hx,hr];exact hK _ _ h1
 · refine wpList_append_own_wide _ hgd s t 33 ho B 45 i0 _ 3 40 Tryz.underlying33 hi hz0 hz1 hz2 rfl (by decide) v ts.length (ts.flatMap dY) hs hown ⟨g,off,none⟩ us.length c (us.flatMap dY) hx (by rw [JM]) hcell ZO (by unfold maxLen;omega) (by omega) hB ?_
   intro v1 w1 h1 h2 _;refine h v1 w1 ?_ h2;unfold OwnFi;rw [List.length_append,List.flatMap_append];exact h1
end Go.Proofs.YtmnhnofnlcbliaaGreatDoor
namespace Go.Proofs.YtmnhnofnlcbliaaGreatDoor
open Go.RowKit Go.Maps Go.WideMaps
set_option maxRecDepth 100000
theorem Ct {w:World} {B:Nat} {v:Value} {ts:List Fi} (h:OwnFi w B v ts):(v= .slice none 0 0∧ts=[])∨∃ g cap,v= .slice (some ⟨g,0,none⟩) ts.length cap∧ts.length≤cap∧g<w.heap.size∧B≤g∧∀ j u,(ts.flatMap dY)[j]? =some u→w.cell? ⟨g,j,none⟩=some u:=by
 rcases h.2 with ⟨e,hn⟩|⟨g,cap,cur,rfl,hB,hgg,hc,_,_,ht⟩
 · exact Or.inl ⟨e,List.length_eq_zero_iff.1 hn⟩
 · refine Or.inr ⟨g,cap,rfl,hc,(Array.getElem?_eq_some_iff.1 hgg).1,hB,fun j u hj=> ?_⟩
   have hjl:j<ts.length*3:=by
    have:=(List.getElem?_eq_some_iff.1 hj).1
    rwa [JM] at this
   exact (World.ownsRow.cellAt h j hjl).trans hj
theorem DG (ts:List Fi) (i:Nat) (hi:i<ts.length):(ts.flatMap dY)[i*3]? =some (.string ts[i].pa)∧(ts.flatMap dY)[i*3+1]? =some (.bool ts[i].dr)∧(ts.flatMap dY)[i*3+2]? =some (.string ts[i].da):=by
 haveI:Inhabited Fi:=⟨⟨⟨#[]⟩,false,⟨#[]⟩⟩⟩
 have h:=fun r hr=>jQ dY 3 (fun _=>rfl) ts i r hi hr
 rw [getElem!_pos ts i hi] at h;exact ⟨(h 0 (by decide)).trans rfl,(h 1 (by decide)).trans rfl,(h 2 (by decide)).trans rfl⟩
theorem OwnFi.at {w:World} {B:Nat} {v:Value} {ts:List Fi} (h:OwnFi w B v ts):FlsAt w v ts:=by
 rcases Ct h with ⟨rfl,rfl⟩|⟨g,cap,rfl,hc,hg,_,hcell⟩
 · exact ⟨none,0,rfl,Nat.le_refl _,fun i hi=>by cases hi⟩
 · refine ⟨_,cap,rfl,hc,fun i hi=>⟨g,0,rfl,⟨?_,?_,?_⟩,hg⟩⟩
   · rw [Nat.zero_add];exact hcell _ _ (DG ts i hi).1
   · rw [Nat.zero_add];exact hcell _ _ (DG ts i hi).2.1
   · rw [Nat.zero_add];exact hcell _ _ (DG ts i hi).2.2
def Fe:Fi:=⟨⟨#[]⟩,false,⟨#[]⟩⟩
def qW (L:List Fi) (s:ByteArray):Option Fi:=L.find? fun x=>decide (x.pa=s)
def cP (L:List Fi) (s:ByteArray):Fi:=(qW L s).getD Fe
theorem sI {L:List Fi} {s:ByteArray} {x:Fi} (h:qW L s=some x):x ∈ L∧x.pa=s:=⟨List.mem_of_find?_eq_some h,by have:=List.find?_some (p:=fun y:Fi=>decide (y.pa=s)) h;exact of_decide_eq_true this⟩
theorem sJ {L:List Fi} {s:ByteArray} (h:qW L s=none):∀ x ∈ L,x.pa≠s:=fun x hx e=>by
 have:=List.find?_eq_none.1 h x hx
 rw [decide_eq_true_eq] at this;exact this e
theorem uD (w:World):(zeroValue 45).run Tryz.prog w= .ok (.agg #[.string ⟨#[]⟩,.bool false,.string ⟨#[]⟩]) w:=by kernel_rfl
theorem nO {v u:Value} {ps:List MemPlace} (h:gO v=some (.held u,ps)):v=u:=by
 unfold gO at h;injection h with h
 injection h with h _
 injection h
theorem BD {w:World} {mb n:Nat} {D:DataW Value} {L:List Fi} (h:w.ownsMap Tryz.prog 9 gO mb n D) (hD:MapF D L) (s:ByteArray) (hs:s.size≤maxLen):
 (Instr.lookup 74 (.map (some mb)) (.string s) true).run Tryz.prog w= .ok (.tuple #[.agg #[.string (cP L s).pa,.bool (cP L s).dr,.string (cP L s).da],.bool (qW L s).isSome]) w∧
 (Instr.lookup 74 (.map (some mb)) (.string s) false).run Tryz.prog w= .ok (.agg #[.string (cP L s).pa,.bool (cP L s).dr,.string (cP L s).da]) w:=by
 unfold cP;cases hf:qW L s with
 |some x=>
  obtain ⟨hx,rfl⟩:=sI hf;have hm:=hD.has x hx
  constructor
  · obtain ⟨v,ps,h1,h2⟩:=h.look_ok mE Tryz.underlying74 (uD w) (zd:= .held (.agg #[.string ⟨#[]⟩,.bool false,.string ⟨#[]⟩])) (zp:=[]) rfl (rB hs)
    rw [hm.2] at h2;rw [hm.1] at h1;rw [h1,nO h2];rfl
  · obtain ⟨v,ps,h1,h2⟩:=h.lookup mE Tryz.underlying74 (uD w) (zd:= .held (.agg #[.string ⟨#[]⟩,.bool false,.string ⟨#[]⟩])) (zp:=[]) rfl (rB hs)
    rw [hm.2] at h2;rw [h1,nO h2];rfl
 |none=>
  have hm:Maps.has D (fS s)=false:=by
   rw [Bool.eq_false_iff];intro q;obtain ⟨x,hx,e⟩:=hD.keys _ q;exact sJ hf x hx (uE e).symm
  constructor
  · obtain ⟨v,ps,h1,h2⟩:=h.look_ok mE Tryz.underlying74 (uD w) (zd:= .held (.agg #[.string ⟨#[]⟩,.bool false,.string ⟨#[]⟩])) (zp:=[]) rfl (rB hs)
    rw [atKey_of_not_has hm] at h2;rw [hm] at h1;rw [h1,nO h2];rfl
  · obtain ⟨v,ps,h1,h2⟩:=h.lookup mE Tryz.underlying74 (uD w) (zd:= .held (.agg #[.string ⟨#[]⟩,.bool false,.string ⟨#[]⟩])) (zp:=[]) rfl (rB hs)
    rw [atKey_of_not_has hm] at h2;rw [h1,nO h2];rfl
theorem QV (w:World) (p:ByteArray) (d:Bool) (t:ByteArray):(Instr.field 45 (.agg #[.string p,.bool d,.string t]) 2).run Tryz.prog w= .ok (.string t) w:=by kernel_rfl
set_option maxHeartbeats 3200000 in
theorem JN {ts:List Fi} {v:Value} {w:World} (h:FlsAt w v ts) (hz:ts.length≤1000000) (hs:∀ x ∈ ts,x.pa.size≤maxLen):
 Calls Tryz.prog 86 #[v] w fun e w'=>e= .returned (.map (some w.heap.size))∧(∃ n D,w'.ownsMap Tryz.prog 9 gO w.heap.size n D∧MapF D (ts.foldl aR []))∧Below w.heap.size w w':=by
 have hmm:= @run_makeMap Tryz.prog;obtain ⟨a,c,rfl,_,hf⟩:=h
 have HF:Hid (∀ W,Below w.heap.size w W→∀ i (hi:i<ts.length),∃ g o,a=some ⟨g,o,none⟩∧xM W g (o+i*3) ts[i]):=fun W hb i hi=>by
  obtain ⟨g,o,e,hx⟩:=hf i hi;exact ⟨g,o,e,xN _ _ _ _ _ hx hb⟩
 have HS:=aB hs;have HM0:Hid (∃ n D,n≤0∧(w.alloc (.map #[] 0)).ownsMap Tryz.prog 9 gO w.heap.size n D∧MapF D ((ts.take 0).foldl aR [])):=⟨0,_,Nat.le_refl _,World.ownsMap_made (H:=Value) w Tryz.prog 9 gO,MapF.new⟩;have HB0:Hid (Below w.heap.size w (w.alloc (.map #[] 0))):=(Below.refl _ _).alloc (Nat.le_refl _) _;clear hf hs
 go_enter Tryz.func86,Tryz.ntmps86
 go_wp2_with fail
 go_loopw [9] (fun vi wr=>∃ k:Nat,k≤ts.length∧vi= .int .i64 k∧Hid (∃ n D,n≤k∧wr.ownsMap Tryz.prog 9 gO w.heap.size n D∧MapF D ((ts.take k).foldl aR []))∧Below w.heap.size w wr) (fun vi _=>ts.length - (intOf vi).toNat)
 case atStart=>exact ⟨0,Nat.zero_le _,rfl,HM0,HB0.out⟩
 case round=>
  obtain ⟨k,hk,rfl,HM,hb⟩:=hrel
  by_cases hlt:k<ts.length
  · have hki:(k:Int)<(ts.length:Int):=by omega
    obtain ⟨g,o,rfl,hfl⟩:=HF.out wr hb k hlt;have hsx:=HS.out _ (List.getElem_mem hlt);obtain ⟨n,D,hn,hown,hD⟩:=HM.out
    have hen:(ts.take (k+1)).foldl aR []=aR ((ts.take k).foldl aR []) ts[k]:=by
     rw [List.take_succ_eq_append_getElem hlt,List.foldl_append];rfl
    have hD2:=hD.put ts[k];rw [←hen] at hD2;obtain ⟨⟨f0,f1,f2⟩,_⟩:=hfl;clear HM hD hen HF HS HM0;generalize ts[k]=x at*;obtain ⟨W,hW⟩:∃ W,W=wr.alloc (.cells #[.string x.pa,.bool x.dr,.string x.da] 45):=⟨_,rfl⟩;have hbW:Below wr.heap.size wr W:=by rw [hW];exact aC _ _
    obtain ⟨w2,hup,ho2,hg2⟩:=World.ownsMap.update (t:=74) (e:=45) (bS hown hbW) mE Tryz.underlying74 (by unfold maxLen;omega) (key:= .string x.pa) (val:=iZ x) (rB hsx) rfl;unfold iZ at hup;have HX:Hid (∃ n D,n≤k+1∧w2.ownsMap Tryz.prog 9 gO w.heap.size n D∧MapF D ((ts.take (k+1)).foldl aR [])):=⟨n+1,_,by omega,ho2,hD2⟩;have HB2:Hid (Below w.heap.size w w2):=(aA hb hbW).grown hg2 (aA hb hbW).size (fun j e=>by cases e;exact Nat.le_refl _);clear ho2 hg2 hown hsx hD2 hbW hb;subst hW
    go_wp2_with fail
    exact ⟨⟨k+1,by omega,by go_num,HX,HB2.out⟩,by simp [intOf];omega⟩
  · obtain rfl:k=ts.length:=by omega
    have HR:Hid (∃ n D,wr.ownsMap Tryz.prog 9 gO w.heap.size n D∧MapF D (ts.foldl aR [])):=by
     obtain ⟨n,D,_,h1,h2⟩:=HM.out;rw [List.take_length] at h2;exact ⟨n,D,h1,h2⟩
    clear HM HM0
    go_wp2_with fail
    go_ret;exact ⟨rfl,HR.out,hb⟩
theorem BE (w:World) (A B C:Obj):(((w.alloc A).alloc B).alloc C).drew.heap[w.heap.size+1]? =some B∧(((w.alloc A).alloc B).alloc C).drew.heap[w.heap.size+1+1]? =some C∧Below w.heap.size w (((w.alloc A).alloc B).alloc C).drew:=by
 have e1:(w.alloc A).heap.size=w.heap.size+1:=by simp
 have e2:((w.alloc A).alloc B).heap.size=w.heap.size+1+1:=by simp
 refine ⟨?_,?_,((((Below.refl _ w).alloc (Nat.le_refl _) _).alloc (by simp) _).alloc (by simp;omega) _).drew⟩
 · show (((w.alloc A).alloc B).alloc C).heap[w.heap.size+1]? =some B
   rw [Below.heap_alloc _ _ _ (by omega),←e1];exact World.alloc_heap_new (w.alloc A) B
 · show (((w.alloc A).alloc B).alloc C).heap[w.heap.size+1+1]? =some C
   rw [←e2];exact World.alloc_heap_new ((w.alloc A).alloc B) C
theorem Ff (W:World):(Instr.makeSlice 25 (.int .i64 1) (.int .i64 1)).run Tryz.prog W= .ok (.slice (some ⟨W.heap.size,0,none⟩) 1 1) (W.alloc (.cells #[.string ⟨#[]⟩,.int .i64 0,.int .i64 0,.int .i64 0,.slice none 0 0,.slice none 0 0] 60)):=by kernel_rfl
theorem Ge (W:World):(Instr.makeSlice 28 (.int .i64 1) (.int .i64 1)).run Tryz.prog W= .ok (.slice (some ⟨W.heap.size,0,none⟩) 1 1) (W.alloc (.cells #[.slice none 0 0,.string ⟨#[]⟩,.int .i64 0,.int .i64 0,.int .i64 0,.slice none 0 0,.slice none 0 0,.slice none 0 0,.int .i64 0] 56)):=by kernel_rfl
set_option maxHeartbeats 3200000 in
theorem pF (w:World):Calls Tryz.prog 33 #[] w fun e w'=>∃ g1 g2,e= .returned (.agg #[.slice none 0 0,.slice none 0 0,.slice none 0 0,.slice none 0 0,.slice (some ⟨g1,0,none⟩) 1 1,.slice (some ⟨g2,0,none⟩) 1 1,.bool false])∧
 w'.heap[g1]? =some (.cells #[.string ⟨#[]⟩,.int .i64 0,.int .i64 0,.int .i64 0,.slice none 0 0,.slice none 0 0] 60)∧w'.heap[g2]? =some (.cells #[.slice none 0 0,.string ⟨#[]⟩,.int .i64 0,.int .i64 0,.int .i64 0,.slice none 0 0,.slice none 0 0,.slice none 0 0,.int .i64 0] 56)∧w.heap.size≤g1∧w.heap.size≤g2∧Below w.heap.size w w':=by
 have m1:=Ff;have m2:=Ge
 go_enter Tryz.func33,Tryz.ntmps33
 go_wp2_with fail
 go_region
 · go_wp2
   refine bodyPost_ret (by simp [results,Tryz.results33,go_sem];try rfl) rfl ?_;obtain ⟨h1,h2,h3⟩:=BE w _ _ _;exact ⟨_,_,rfl,h1,h2,by omega,by omega,h3⟩
 · go_wp2
   refine bodyPost_ret (by simp [results,Tryz.results33,go_sem];try rfl) rfl ?_;obtain ⟨h1,h2,h3⟩:=BE w _ _ _;exact ⟨_,_,rfl,h2,h1,by omega,by omega,h3⟩
structure Dv where
 d:Dr
 u:Value
 v1:Value
 v2:Value
 v3:Value
def qX (x:Dv):List Value:=[x.u,.string x.d.pk.nm,.int .i64 x.d.pk.a,.int .i64 x.d.pk.b,.int .i64 x.d.pk.c,x.v1,x.v2,x.v3,.int .i64 x.d.nd]
theorem JO (x:Dv):(qX x).length=9:=rfl
theorem Cu:(Tryz.prog.info? 56).map (fun i=>(i.zero,i.size,i.bytes))=some (some (.agg #[.slice none 0 0,.string ⟨#[]⟩,.int .i64 0,.int .i64 0,.int .i64 0,.slice none 0 0,.slice none 0 0,.slice none 0 0,.int .i64 0]),9,144):=by kernel_rfl
def OwnV (w:World) (B:Nat) (x:Dv):Prop:=OwnPa w B x.u x.d.pa∧OwnP w B x.d.pk x.v1 x.v2 x.v3
theorem OwnV.below {w w':World} {B:Nat} {x:Dv} (h:OwnV w B x) (hb:Below w.heap.size w w'):OwnV w' B x:=⟨h.1.below hb,h.2.below hb⟩
theorem OwnD.keptV {w w':World} {B B':Nat} {v v':Value} {ps:List (Dp×Value)} {n':Nat} {ys:List Value} (h:OwnD w B v ps) (hr:w.ownsRow B' 56 9 v' n' ys) (hg:w.grownBy w' v'.ownBlock):OwnD w' B v ps:=⟨World.ownsRow.kept h.1 hg (cA h.1 hr (by decide)),fun p hp=>World.ownsRow.kept (h.2 p hp) hg (cA (h.2 p hp) hr (by decide))⟩
theorem OwnV.kept {w w':World} {B B':Nat} {x:Dv} {v':Value} {n':Nat} {ys:List Value} (h:OwnV w B x) (hr:w.ownsRow B' 56 9 v' n' ys) (hg:w.grownBy w' v'.ownBlock):OwnV w' B x:=by
 obtain ⟨h1,q1,q2,q3,⟨d1,m1⟩,⟨d2,m2⟩,d3,m3⟩:=h;exact ⟨World.ownsRow.kept h1 hg (cA h1 hr (by decide)),q1,q2,q3,⟨d1.keptV hr hg,m1⟩,⟨d2.keptV hr hg,m2⟩,d3.keptV hr hg,m3⟩
theorem OwnV.one {w:World} {B:Nat} {x:Dv} (h:OwnV w B x):∀ v ∈ qX x,v.oneCell'=true:=fun v hv=>by
 obtain ⟨ua,uc,e0⟩:=h.1.at.sl;have hp:=h.2.at;obtain ⟨a1,c1,e1⟩:=hp.1.sl;obtain ⟨a2,c2,e2⟩:=hp.2.1.sl;obtain ⟨a3,c3,e3⟩:=hp.2.2.sl;simp only [qX,List.mem_cons,List.not_mem_nil,or_false] at hv
 rcases hv with rfl|rfl|rfl|rfl|rfl|rfl|rfl|rfl|rfl
 · rw [e0];rfl
 · rfl
 · rfl
 · rfl
 · rfl
 · rw [e1];rfl
 · rw [e2];rfl
 · rw [e3];rfl
 · rfl
def RowV (w:World) (B:Nat) (v:Value) (xs:List Dv):Prop:=w.ownsRow B 56 9 v xs.length (xs.flatMap qX)∧∀ x ∈ xs,OwnV w B x
theorem RowV.below {w w':World} {B:Nat} {v:Value} {xs:List Dv} (h:RowV w B v xs) (hb:Below w.heap.size w w'):RowV w' B v xs:=⟨dN h.1 hb,fun x hx=>(h.2 x hx).below hb⟩
theorem RowV.form {w:World} {B:Nat} {v:Value} {xs:List Dv} (h:RowV w B v xs):∃ a c,v= .slice a xs.length c:=by
 rcases h.1.2 with ⟨rfl,hn⟩|⟨g,cap,cur,rfl,_⟩
 · exact ⟨none,0,by rw [hn]⟩
 · exact ⟨_,_,rfl⟩
theorem QW (xs:List Dv) (i r:Nat) (hi:i<xs.length) (hr:r<9):(xs.flatMap qX)[i*9+r]? =(qX xs[i])[r]? :=by
 haveI:Inhabited Dv:=⟨⟨⟨[],lM,0⟩,undef,undef,undef,undef⟩⟩
 have h:=jQ qX 9 (fun _=>rfl) xs i r hi hr
 rwa [getElem!_pos xs i hi] at h
theorem RowV.at {w:World} {B:Nat} {v:Value} {xs:List Dv} (h:RowV w B v xs):DirsAt w v (xs.map Dv.d):=by
 rcases h.1.2 with ⟨rfl,hn⟩|⟨g,cap,cur,rfl,hB,hg,hc,_⟩
 · obtain rfl:xs=[]:=List.length_eq_zero_iff.1 hn
   exact ⟨none,0,rfl,Nat.le_refl _,Or.inl rfl⟩
 · refine ⟨_,cap,by rw [List.length_map],by rw [List.length_map];exact hc,Or.inr ⟨g,0,rfl,fun i hi=> ?_⟩⟩
   rw [List.length_map] at hi;rw [List.getElem_map];have hx:=h.2 _ (List.getElem_mem hi)
   have hcl:∀ r u,r<9→(qX xs[i])[r]? =some u→w.cell? ⟨g,0+i*9+r,none⟩=some u:=fun r u hr e=>by
    rw [Nat.zero_add,World.ownsRow.cellAt h.1 (i*9+r) (by omega),QW xs i r hi hr];exact e
   exact ⟨xs[i].u,xs[i].v1,xs[i].v2,xs[i].v3,⟨hcl 0 _ (by decide) rfl,hcl 1 _ (by decide) rfl,hcl 2 _ (by decide) rfl,hcl 3 _ (by decide) rfl,hcl 4 _ (by decide) rfl,hcl 5 _ (by decide) rfl,hcl 6 _ (by decide) rfl,hcl 7 _ (by decide) rfl,hcl 8 _ (by decide) rfl⟩,⟨hx.1.at,hx.2.at⟩,(Array.getElem?_eq_some_iff.1 hg).1⟩
theorem Fg {B:Nat} {wx:World} {v:Value} {xs:List Dv} {x:Dv} {N:Nat} {ops:Array Oper} {rest:List Oper} {o:Oper} {f:Act} {Q:Exit→Act→World→Prop}
 (hgd:o.guard=none) (s t:Operand) (ho:o.op= .call { callee:= .builtin .append,args:= #[s,t],argTypes:= #[28,28] }) (hs:f.eval s=v)
 (hown:RowV wx B v xs) (hB:B≤wx.heap.size) (hx:f.eval t= .slice (some ⟨N,0,none⟩) 1 1) (hov:OwnV wx B x) (hc:∀ j u,(qX x)[j]? =some u→wx.cell? ((⟨N,0,none⟩:Addr).add j)=some u) (hb:xs.length≤1000000)
 (h:∀ v1 w1,RowV w1 B v1 (xs++[x])→wx.grownBy w1 v.ownBlock→wpList Tryz.prog ops Q rest (f.put o.dst v1) w1):
 wpList Tryz.prog ops Q (o::rest) f wx:=by
 obtain ⟨i0,hi,hz0,hz1,hz2⟩:=Sc.bK Cu;refine wpList_append_own_wide _ hgd s t 28 ho B 56 i0 _ 9 144 Tryz.underlying28 hi hz0 hz1 hz2 rfl (by decide) v xs.length (xs.flatMap qX) hs hown.1 ⟨N,0,none⟩ 1 1 (qX x) hx rfl hc hov.one (by unfold maxLen;omega) (by omega) hB ?_;intro v1 w1 h1 h2 _;refine h v1 w1 ⟨?_,fun y hy=> ?_⟩ h2
 · rw [List.length_append,List.flatMap_append]
   simpa using h1
 · rcases List.mem_append.1 hy with hy|hy
   · exact (hown.2 y hy).kept hown.1 h2
   · obtain rfl:=List.mem_singleton.1 hy
     exact hov.kept hown.1 h2
noncomputable def gPk (t:ByteArray):Pg:=if jV t=0 then oB t else lM
theorem UJ (t:ByteArray) {w:World} (he:Env w) (hf:FL w):Calls Tryz.prog 141 #[.string t] w fun e w'=>∃ a1 n1 c1 a2 n2 c2 a3 n3 c3 er,e= .returned (.tuple #[.agg #[.string (gPk t).nm,.int .i64 (gPk t).a,.int .i64 (gPk t).b,.int .i64 (gPk t).c,.slice a1 n1 c1,.slice a2 n2 c2,.slice a3 n3 c3],.int .i64 er])∧OwnP w' w.heap.size (gPk t) (.slice a1 n1 c1) (.slice a2 n2 c2) (.slice a3 n3 c3)∧Below w.heap.size w w':=by
 refine (ZF t he hf).mono ?_;rintro e w' ⟨s,a,b,c,v1,v2,v3,rfl,hb,h0,h1⟩
 have hown:OwnP w' w.heap.size (gPk t) v1 v2 v3∧s=(gPk t).nm∧a=(gPk t).a∧b=(gPk t).b∧c=(gPk t).c:=by
  unfold gPk
  by_cases q:jV t=0
  · obtain ⟨r1,r2,r3,r4,r5⟩:=h0 q
    rw [if_pos q];exact ⟨r5,r1,r2,r3,r4⟩
  · obtain ⟨rfl,rfl,rfl,rfl,rfl,rfl,rfl⟩:=h1 q
    rw [if_neg q];exact ⟨⟨[],[],[],⟨OwnD.nil _ _,rfl⟩,⟨OwnD.nil _ _,rfl⟩,OwnD.nil _ _,rfl⟩,rfl,rfl,rfl,rfl⟩
 obtain ⟨ho,rfl,rfl,rfl,rfl⟩:=hown;have hp:=ho.at;obtain ⟨a1,c1,rfl⟩:=hp.1.sl;obtain ⟨a2,c2,rfl⟩:=hp.2.1.sl;obtain ⟨a3,c3,rfl⟩:=hp.2.2.sl;exact ⟨_,_,_,_,_,_,_,_,_,_,rfl,ho,hb⟩
noncomputable def jO (M:List Fi) (x:Fi):List Dr:=match cI x.pa.data.toList with
 |some p=>[⟨p,gPk (cP M (x.pa++fH)).da,1⟩]
 |none=>[]
noncomputable def bW (M:List Fi) (ts:List Fi):List Dr:=drZ::ts.flatMap (jO M)
theorem JP (M:List Fi) (x:Fi):(jO M x).length≤1:=by
 unfold jO
 split<;>simp
theorem nP (M:List Fi):∀ ts:List Fi,(ts.flatMap (jO M)).length≤ts.length
 |[]=>by simp
 |x::ts=>by
  rw [List.flatMap_cons,List.length_append,List.length_cons]
  have:=nP M ts
  have:=JP M x
  omega
end Go.Proofs.YtmnhnofnlcbliaaGreatDoor
