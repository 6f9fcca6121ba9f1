/- Wr1, Pk6, Pk7, Tw5, Ps2, Pk8: their declarations that are needed, laid in one text, remarks and blanks left out. -/
import Derived.Test.YtmnhnofnlcbliaaGreatDoorScC
import Derived.Test.YtmnhnofnlcbliaaGreatDoorMg08
import Derived.Test.YtmnhnofnlcbliaaGreatDoorMg09
namespace Go.Proofs.YtmnhnofnlcbliaaGreatDoor
open Go.RowKit
set_option maxRecDepth 100000
theorem kN {s t:ByteArray} (h:s.data.toList=t.data.toList):s=t:=(dC h).trans (fE t)
theorem zK (s:ByteArray):(⟨#[]⟩:ByteArray)++s=s:=kN (by rw [bH];rfl)
theorem SQ (s:ByteArray):s++(⟨#[]⟩:ByteArray)=s:=kN (by rw [bH];exact List.append_nil _)
theorem pZ (c:UInt8):aP ⟨#[]⟩ ⟨#[c]⟩=[⟨#[]⟩]:=lK (c:=c) (tl:=[]) rfl (fun x hx=>by cases hx)
theorem FP {s:ByteArray} (hs:∀ x ∈ s.data.toList,x≠124) {A:Rg} (ha:jC s=some A):jC (⟨#[32]⟩++s)=some A∧∀ x ∈ (⟨#[32]⟩++s).data.toList,x≠124:=by
 have hb:∀ x ∈ (⟨#[32]⟩++s).data.toList,x≠124:=by
  intro x hx;rw [bH] at hx
  rcases List.mem_append.1 hx with hx|hx
  · simp at hx;rw [hx];decide
  · exact hs x hx
 refine ⟨?_,hb⟩;have e:(⟨#[32]⟩:ByteArray)++s=((⟨#[]⟩:ByteArray)++⟨#[32]⟩)++s:=by rw [zK]
 have hp:=fF (sep:=⟨#[32]⟩) (c:=32) (tl:=[]) rfl s 0 ⟨#[]⟩ (Nat.le_refl _) (iS 32 0 ⟨#[]⟩ (Nat.le_refl _));rw [gU hb,e,hp,pZ,List.singleton_append,jS,if_pos (show (⟨#[]⟩:ByteArray).size=0 from rfl)];exact (gU hs).1 ha
theorem zL {s:ByteArray} (hs:∀ x ∈ s.data.toList,x≠124) {A:Rg} (ha:jC s=some A):jC (s++⟨#[32]⟩)=some A∧∀ x ∈ (s++⟨#[32]⟩).data.toList,x≠124:=by
 have hb:∀ x ∈ (s++⟨#[32]⟩).data.toList,x≠124:=by
  intro x hx;rw [bH] at hx
  rcases List.mem_append.1 hx with hx|hx
  · exact hs x hx
  · simp at hx;rw [hx];decide
 refine ⟨?_,hb⟩;have e:s++(⟨#[32]⟩:ByteArray)=(s++⟨#[32]⟩)++⟨#[]⟩:=by rw [SQ]
 have hp:=fF (sep:=⟨#[32]⟩) (c:=32) (tl:=[]) rfl ⟨#[]⟩ s.size s (Nat.le_refl _) (iS 32 s.size s (Nat.le_refl _));rw [gU hb,e,hp,pZ,hZ,(gU hs).1 ha];simp only [Option.bind_some];rw [jS,if_pos (show (⟨#[]⟩:ByteArray).size=0 from rfl)];rfl
theorem kO {sg:ByteArray} (hs:vH sg) {a b c:Int} (h:bB a b c=true) {X:Rg} (hX:gK sg.data.toList (bE a b c)=some X):jC (sg++aL a b c)=some X∧∀ x ∈ (sg++aL a b c).data.toList,x≠124:=by
 have hp:=LF hs h;have hl:=rM h;refine ⟨FI (fun x hx=>⟨(hp x hx).1,(hp x hx).2.1⟩) ?_ ((SM hs h).trans hX),fun x hx e=>(hp x hx).2.1 (by rw [e];rfl)⟩;rw [cS];rw [aI] at hl;omega
theorem WY:jC ⟨#[42]⟩=some cF∧∀ x ∈ (⟨#[42]⟩:ByteArray).data.toList,x≠124:=by
 refine ⟨FI ?_ (by decide) ?_,?_⟩
 · intro x hx;simp at hx;rw [hx];decide
 · unfold fD;rw [if_pos rfl]
 · intro x hx;simp at hx;rw [hx];decide
theorem PG:vH ⟨#[60,61]⟩:=by intro x hx;simp at hx;rcases hx with rfl|rfl<;>decide
theorem PH:vH ⟨#[62,61]⟩:=by intro x hx;simp at hx;rcases hx with rfl|rfl<;>decide
theorem Aw:vH ⟨#[]⟩:=by intro x hx;simp at hx
theorem vK:bE 0 0 0=0:=by decide+kernel
theorem FQ:bE 999 999 999=999999999:=by decide+kernel
theorem PI {lo hi:Int} (h1:okR lo) (h2:okR hi) (h:lo≤hi):jC (spT (lo,hi))=some [(lo,hi)]∧∀ x ∈ (spT (lo,hi)).data.toList,x≠124:=by
 obtain ⟨m1,e1⟩:=gQ h1.has;obtain ⟨m2,e2⟩:=gQ h2.has;unfold spT iO
 simp only
 split
 · rename_i hq
   have hlh:lo=hi:=by rw [←e1,←e2,hq.1,hq.2.1,hq.2.2]
   have:=kO Aw m1 (X:=[(lo,lo)]) (by rw [e1];rfl)
   rw [zK] at this;rw [←hlh];exact this
 · split
   · rename_i _ hq
     have hl:lo=0:=by rw [←e1,hq.1.1,hq.1.2.1,hq.1.2.2];exact vK
     have hh:hi=999999999:=by rw [←e2,hq.2.1,hq.2.2.1,hq.2.2.2];exact FQ
     rw [hl,hh];exact WY
   · split
     · rename_i _ _ hq
       have hl:lo=0:=by rw [←e1,hq.1,hq.2.1,hq.2.2];exact vK
       have:=kO PG m2 (X:=[(0,hi)]) (by rw [e2];rfl)
       rw [hl];exact this
     · split
       · rename_i _ _ _ hq
         have hh:hi=999999999:=by rw [←e2,hq.1,hq.2.1,hq.2.2];exact FQ
         have:=kO PH m1 (X:=[(lo,999999999)]) (by rw [e1];rfl)
         rw [hh];exact this
       · obtain ⟨a1,b1⟩:=kO PH m1 (X:=[(lo,999999999)]) (by rw [e1];rfl)
         obtain ⟨a2,b2⟩:=kO PG m2 (X:=[(0,hi)]) (by rw [e2];rfl);have r1:=jZ h1 okL h1.2;have r2:=jZ okF h2 h2.1
         have hm:fX [(lo,999999999)] [(0,hi)]=[(lo,hi)]:=fN (r1.meet r2) (jZ h1 h2 h) fun n=>by
          rw [lF r1 r2];simp only [InR,or_false]
          have:=h1.1
          have:=h2.2
          omega
         have e:((⟨#[62,61]⟩++aL (atA lo) (atB lo) (atC lo))++⟨#[32,60,61]⟩)++aL (atA hi) (atB hi) (atC hi)=((⟨#[62,61]⟩++aL (atA lo) (atB lo) (atC lo))++⟨#[32]⟩)++(⟨#[60,61]⟩++aL (atA hi) (atB hi) (atC hi)):=kN (by simp only [bH];simp);rw [e];refine ⟨by rw [SP b1 b2 a1 a2,hm],?_⟩;intro x hx;rw [bH,bH] at hx;simp only [List.mem_append] at hx
         rcases hx with (hx|hx)|hx
         · exact b1 x hx
         · simp at hx;rw [hx];decide
         · exact b2 x hx
theorem zM {k M:Int} {p:Int×Int} {A:Rg} (h:RiseR k M (p::A)):k≤p.1∧p.1≤p.2∧p.2≤M∧RiseR (p.2+2) M A:=h
theorem SR {k j M:Int} (hj:j≤k):∀ {A:Rg},RiseR k M A→RiseR j M A
 |[],_=>trivial
 |(_,_)::_,h=>⟨by have:=h.1;omega,h.2.1,h.2.2.1,h.2.2.2⟩
theorem zN:∀ {A:Rg},RangeR A→A≠[]→jC (dI A)=some A∧jC (⟨#[32]⟩++dI A)=some A
 |[],_,h=>absurd rfl h
 |[(lo,hi)],hA,_=>by
  obtain ⟨q1,q2,q3,_⟩:=zM hA;obtain ⟨a,b⟩:=PI (lo:=lo) (hi:=hi) ⟨q1,by simp at q2 q3;omega⟩ ⟨by simp at q1 q2;omega,q3⟩ q2
  have e:dI [(lo,hi)]=spT (lo,hi):=by
   unfold dI;simp only [List.map_cons,List.map_nil];rw [Lib.join_one,fE]
  rw [e];exact ⟨a,(FP b a).1⟩
 |(lo,hi)::q::r,hA,_=>by
  obtain ⟨q1,q2,q3,q4⟩:=zM hA;have hB:RangeR (q::r):=SR (by simp at q1 q2;omega) q4;have hP:RangeR [(lo,hi)]:=⟨q1,q2,q3,trivial⟩;obtain ⟨a,b⟩:=PI (lo:=lo) (hi:=hi) ⟨q1,by simp at q2 q3;omega⟩ ⟨by simp at q1 q2;omega,q3⟩ q2;obtain ⟨_,i2⟩:=zN hB (by simp)
  have hj:fY [(lo,hi)] (q::r)=(lo,hi)::q::r:=fN (hP.join hB) hA fun n=>by
   rw [lG hP hB];simp only [InR,or_false]
  have e:dI ((lo,hi)::q::r)=((spT (lo,hi)++⟨#[32]⟩)++⟨#[124,124]⟩)++(⟨#[32]⟩++dI (q::r)):=by
   refine kN ?_;simp only [bH];unfold dI;simp only [List.map_cons];rw [Lib.join_cons]
   have:Lib.joinTail [32,124,124,32] ((spT q).data.toList::r.map fun p=>(spT p).data.toList)=[32,124,124,32]++Lib.join ((spT q).data.toList::r.map fun p=>(spT p).data.toList) [32,124,124,32]:=by
    rw [Lib.join_cons];simp [Lib.joinTail]
   rw [this]
   simp
  obtain ⟨c1,d1⟩:=zL b a;obtain ⟨c2,d2⟩:=FP b a;obtain ⟨c3,d3⟩:=zL d2 c2;refine ⟨by rw [e,FO c1 i2,hj],?_⟩
  have e2:⟨#[32]⟩++dI ((lo,hi)::q::r)=(((⟨#[32]⟩++spT (lo,hi))++⟨#[32]⟩)++⟨#[124,124]⟩)++(⟨#[32]⟩++dI (q::r)):=by
   rw [e];refine kN ?_;simp only [bH]
   simp
  rw [e2,FO c3 i2,hj]
theorem Ax:vH ⟨#[60]⟩:=by intro x hx;simp at hx;rw [hx];decide
theorem LM {A:Rg} (hA:RangeR A):jC (dI A)=some A:=by
 cases A with
 |cons p A=>exact (zN hA (by simp)).1
 |nil=>
  have:=(kO Ax (a:=0) (b:=0) (c:=0) (by decide+kernel) (X:=bR cF [(0,999999999)]) (by rw [vK];rfl)).1
  have e:bR cF [(0,999999999)]=[]:=by decide+kernel
  rw [e] at this;exact this
theorem vL {A:Rg} (hl:A.length≤64):(dI A).size≤4096:=by
 cases A with
 |nil=>have:=eV 0 0 0;have z:(⟨#[60]⟩:ByteArray).size=1:=rfl;show (⟨#[60]⟩++aL 0 0 0).size≤4096;rw [cS];omega
 |cons p A=>
  show (⟨(Lib.join ((p::A).map fun p=>(spT p).data.toList) [32,124,124,32]).toArray⟩:ByteArray).size≤4096;rw [dT,List.map_cons,Lib.join_length,←List.map_cons (f:=fun p=>(spT p).data.toList)]
  have:=BR 27 ((p::A).map fun p=>(spT p).data.toList) (by
   intro x hx;obtain ⟨q,_,rfl⟩:=List.mem_map.1 hx;exact uX _ _ _ _ _ _)
  simp only [List.length_map,List.length_cons,List.length_nil] at*;omega
theorem zO {A:Rg} (hA:RangeR A) (hl:A.length≤64):iL (dI A)=some A:=by
 unfold iL;rw [if_pos (vL hl)];exact LM hA
def FarB (b:Nat) (w w':World):Prop:=∀ N cs t fr,w.heap[N]? =some (.cells cs t fr)→t≠5→N≠b→w'.heap[N]? =some (.cells cs t fr)
theorem FarB.refl (b:Nat) (w:World):FarB b w w:=fun _ _ _ _ h _ _=>h
theorem FarB.trans {b:Nat} {w w1 w2:World} (h:FarB b w w1) (h2:FarB b w1 w2):FarB b w w2:=fun N cs t fr hh ht hn=>h2 N cs t fr (h N cs t fr hh ht hn) ht hn
theorem FarB.set {b:Nat} {w w1:World} (h:FarB b w w1) (i:Nat) (u:Value):FarB b w (w1.setCell ⟨b,i,none⟩ u):=fun N cs t fr hh ht hn=>(Below.heap_setCell _ _ _ _ hn).trans (h N cs t fr hh ht hn)
theorem FarB.below {b:Nat} {w w':World} (h:Below w.heap.size w w'):FarB b w w':=fun N _ _ _ hh _ _=>(h.block N (Array.getElem?_eq_some_iff.1 hh).1).trans hh
theorem zP {B b:Nat} {l:Sc.Bs} {w:World} (h:Sc.Bld B b l w):
 Calls Tryz.prog 106 #[.pointer (some ⟨b,0,none⟩)] w fun e w'=>e= .returned (.tuple #[])∧Lib.BuilderAt 118 5 B b (.pointer (some ⟨b,0,none⟩)) (Lib.byteCells l) w'∧Below B w w'∧FarB b w w':=by
 rcases h with h|h
 · refine (Sc.sO b w h.cell0 h.shape h.frozen0).mono ?_
   rintro e w' ⟨rfl,rfl⟩;exact ⟨rfl,h.used _,(Below.refl B w).setCell (p:=⟨b,0,none⟩) h.1 _,(FarB.refl b w).set _ _⟩
 · refine (Sc.vG b w h.cell0).mono ?_
   rintro e w' ⟨rfl,rfl⟩;exact ⟨rfl,h,Below.refl B _,FarB.refl b _⟩
set_option maxHeartbeats 1600000 in
theorem FS {B b:Nat} {l:Sc.Bs} {w:World} (s:ByteArray) (h:Sc.Bld B b l w) (hl:l.length+s.size≤140737488355328) (hB:B≤w.heap.size):
 Calls Tryz.prog 54 #[.pointer (some ⟨b,0,none⟩),.string s] w fun e w'=>e= .returned (.tuple #[.int .i64 s.size,.nilIface])∧Sc.Bld B b (l++s.data.toList) w'∧Below B w w'∧FarB b w w':=by
 obtain ⟨i0,hi,hz0,hz1,hz2⟩:=Sc.bK Sc.PD;have HC:=aB (zP h);have hlc:(Lib.byteCells l).length=l.length:=Lib.byteCells_length l
 go_enter Tryz.func54,Tryz.ntmps54
 go_wp2_with (go_at_call 106;refine HC.out.mono ?_)
 rintro e w1 ⟨rfl,h1,hb1,hf1⟩;obtain ⟨hBb,v,hbk,hown,hne⟩:=h1;have c0:w1.cell? ⟨b,0,none⟩=some (.pointer (some ⟨b,0,none⟩)):=by rw [Lib.cell_of_heap hbk];rfl
 have c1:w1.cell? ⟨b,1,none⟩=some v:=by rw [Lib.cell_of_heap hbk];rfl
 have hs1:=hb1.size
 go_wp2_with (at_builtin;refine Lib.wpList_append_own_string _ rfl _ _ 116 9 rfl B 5 i0 Tryz.underlying116 Tryz.underlying9 hi hz0 hz1 hz2 _ _ _ rfl hown s rfl (by unfold maxLen;omega) (by omega) (by omega) ?_)
 intro v' w2 hown' hgrow _;have hlt:b<w1.heap.size:=(Array.getElem?_eq_some_iff.1 hbk).1
 have hb2:w2.heap[b]? =some (.cells #[.pointer (some ⟨b,0,none⟩),v] 118 (0,0)):=by
  rw [hgrow.block b hlt (fun e=>hne e.symm)];exact hbk
 have HFA:Hid (FarB b w w2):=fun N cs t fr hh ht hn=>by
  have hN:=hf1 N cs t fr hh ht hn;refine (hgrow.block N (Array.getElem?_eq_some_iff.1 hN).1 (fun e=> ?_)).trans hN
  rcases hown.2 with ⟨hv,_⟩|⟨g,cap,cur,hv,_,hg,_⟩
  · rw [hv] at e;cases e
  · rw [hv] at e
    obtain rfl:N=g:=Option.some.inj e;rw [hN] at hg;injection hg with hg
    injection hg with _ hg _
    exact ht hg
 have d0:w2.cell? ⟨b,0,none⟩=some (.pointer (some ⟨b,0,none⟩)):=by rw [Lib.cell_of_heap hb2];rfl
 have d1:w2.cell? ⟨b,1,none⟩=some v:=by rw [Lib.cell_of_heap hb2];rfl
 have f1:w2.frozen? ⟨b,1,none⟩=false:=Lib.frozen_of_heap hb2 1
 obtain ⟨ao,n',cap,rfl⟩:∃ ao n' cap,v'= .slice ao n' cap:=by
  rcases hown'.2 with ⟨hv,_⟩|⟨g,cap,cur,hv,_⟩
  · exact ⟨_,_,_,hv⟩
  · exact ⟨_,_,_,hv⟩
 clear hf1
 go_wp2
 go_ret2;refine ⟨rfl,Or.inr ?_,?_,HFA.out.set _ _⟩
 · refine Lib.BuilderAt.put (T:=118) (e:=5) hBb hb2 ?_ (by decide)
   rw [Lib.byteCells_append,List.length_append,←Lib.strCells_eq,hlc]
   simpa [Lib.strCells_length] using hown'
 · exact (hb1.grown hgrow (by omega) (fun k hk=>(hown.lt k hk).1)).setCell (p:=⟨b,1,none⟩) hBb _
def iE (x n r:ByteArray):Sc.Bs:=x.data.toList++([32]++(n.data.toList++([32]++(r.data.toList++[10]))))
theorem PJ {B b:Nat} {l:Sc.Bs} {w:World} (h:Sc.Bld B b l w):Calls Tryz.prog 158 #[.pointer (some ⟨b,0,none⟩)] w fun e w'=>e= .returned (.int .i64 l.length)∧w'=w:=by
 obtain ⟨v,c1,hv⟩:∃ v,w.cell? ⟨b,1,none⟩=some v∧∃ ad cap,v= .slice ad l.length cap:=by
  rcases h with ⟨_,v,hbk,hown,_⟩|⟨_,v,hbk,hown,_⟩<;>
  · refine ⟨v,by rw [Lib.cell_of_heap hbk];rfl,?_⟩
    rcases hown.2 with ⟨hv,hn⟩|⟨g,cap,cur,hv,_⟩
    · rw [Lib.byteCells_length] at hn
      exact ⟨none,0,by rw [hv,hn]⟩
    · rw [Lib.byteCells_length] at hv
      exact ⟨_,_,hv⟩
 obtain ⟨ad,cap,rfl⟩:=hv
 go_enter Tryz.func158,Tryz.ntmps158
 go_wp2
 go_ret;exact ⟨rfl,rfl⟩
def plS (s:Sp):Int×Int:=(bE s.a s.b s.c,bE s.x s.y s.z)
theorem WZ {A:Rg} (hA:RangeR A):(A.map spR).map plS=A:=by
 rw [List.map_map]
 conv=>rhs;rw [←List.map_id A]
 refine List.map_congr_left fun p hp=> ?_
 obtain ⟨h1,h2,_⟩:=hA.ok p hp;show (bE (atA p.1) (atB p.1) (atC p.1),bE (atA p.2) (atB p.2) (atC p.2))=p;have e1:=(gQ (n:=p.1) (by unfold jX;obtain ⟨a,b⟩:=h1;simp;omega)).2;have e2:=(gQ (n:=p.2) (by unfold jX;obtain ⟨a,b⟩:=h2;simp;omega)).2;rw [e1,e2]
def prS (L:List Sp):ByteArray:=dI (L.map plS)
theorem SS {L:List Sp} {u:Value} {w:World} (h:bZ L=true) (hu:SpansC w u L) (he:Env w) (hf:FL w):
 Calls Tryz.prog 199 #[u] w fun e w'=>e= .returned (.string (prS L))∧Below w.heap.size w w':=by
 unfold bZ at h;rw [Bool.and_eq_true] at h;obtain ⟨A,rfl,hA,hl⟩:=tU.1 h.2;unfold prS;rw [WZ hA];exact RX hA hl hu.rg he hf
theorem FT {L:List Sp} (h:bZ L=true):(prS L).size≤4096:=by
 unfold bZ at h;rw [Bool.and_eq_true] at h;obtain ⟨A,rfl,hA,hl⟩:=tU.1 h.2;unfold prS;rw [WZ hA];exact vL hl
def bQ (x:ByteArray) (L:List Dp):Sc.Bs:=L.flatMap fun d=>iE x d.nm (prS d.rg)
theorem LN {x:ByteArray} {L:List Dp} {k:Nat} (h:k<L.length):bQ x (L.take (k+1))=bQ x (L.take k)++iE x L[k].nm (prS L[k].rg):=by
 unfold bQ;rw [List.take_succ_eq_append_getElem h,List.flatMap_append]
 simp
theorem vM:∀ {L:List Dp} {q:Option ByteArray},dZ q L=true→∀ d ∈ L,d.nm.size≤16∧bZ d.rg=true
 |[],_,_,d,hd=>by cases hd
 |e::M,q,hq,d,hd=>by
  rw [dZ,Bool.and_eq_true,Bool.and_eq_true] at hq
  rcases List.mem_cons.1 hd with rfl|hd
  · have:=hq.1.1
    unfold dD at this;rw [Bool.and_eq_true] at this
    have:=this.1
    unfold Sc.aK at this;rw [Bool.and_eq_true,decide_eq_true_eq,aI] at this;exact ⟨this.2,hq.1.2⟩
  · exact vM hq.2 d hd
theorem FU {x n r:ByteArray} (hx:x.size≤16) (hn:n.size≤16) (hr:r.size≤4096):(iE x n r).length≤5000:=by
 unfold iE;simp only [List.length_append,aI,List.length_cons,List.length_nil];omega
theorem jE {x:ByteArray} (hx:x.size≤16) {L:List Dp} (h:bV L=true) (k:Nat):(bQ x (L.take k)).length≤80000:=by
 unfold bV at h;rw [Bool.and_eq_true,decide_eq_true_eq] at h
 have:∀ M:List Dp,(∀ d ∈ M,d.nm.size≤16∧bZ d.rg=true)→(bQ x M).length≤5000*M.length:=by
  intro M
  induction M with
  |nil=>intro _;simp [bQ]
  |cons d M ih=>
   intro hM;have h1:=ih fun e he=>hM e (List.mem_cons_of_mem _ he)
   have h2:=FU (x:=x) hx (hM d List.mem_cons_self).1 (FT (hM d List.mem_cons_self).2)
   have:bQ x (d::M)=iE x d.nm (prS d.rg)++bQ x M:=by unfold bQ;simp
   rw [this,List.length_append,List.length_cons];omega
 have h2:=this (L.take k) fun d hd=>vM h.2 d (List.mem_of_mem_take hd)
 have h3:(L.take k).length≤16:=by rw [List.length_take];omega
 omega
def TW (w1:World) (l:Sc.Bs) (w':World):Prop:=Sc.Bld w1.heap.size w1.heap.size l w'∧Below w1.heap.size w1 w'
theorem ST {B b:Nat} {l:Sc.Bs} {w w':World} (h:Sc.Bld B b l w) (hb:Below w.heap.size w w'):Sc.Bld B b l w':=by
 have step:∀ p,Lib.BuilderAt 118 5 B b p (Lib.byteCells l) w→Lib.BuilderAt 118 5 B b p (Lib.byteCells l) w':=by
  rintro p ⟨hB,v,hbk,hown,hne⟩;refine ⟨hB,v,(hb.block b (Array.getElem?_eq_some_iff.1 hbk).1).trans hbk,⟨hown.1,hown.2.imp id ?_⟩,hne⟩;rintro ⟨g,cap,cur,rfl,h1,hg,h2⟩;exact ⟨g,cap,cur,rfl,h1,(hb.block g (Array.getElem?_eq_some_iff.1 hg).1).trans hg,h2⟩
 exact h.imp (step _) (step _)
theorem jF (w1:World) (l:Sc.Bs):KeepP (TW w1 l):=fun _ _ h hb=>⟨ST h.1 hb,aA h.2 hb⟩
theorem TW.new (w1:World):TW w1 [] (w1.alloc (.cells #[.pointer none,.slice none 0 0] 118)):=⟨Lib.fresh_isBuilder _ _ w1,aC _ _⟩
theorem TW.far {w1:World} {l:Sc.Bs} {w':World} (h:TW w1 l w'):w1.heap.size<w'.heap.size:=by
 rcases h.1 with h|h<;>exact h.lt
theorem TW.put {w1 wz:World} {l:Sc.Bs} (h:TW w1 l wz) (s:ByteArray) (hl:l.length≤1000000000) (hs:s.size≤1000000):
 Calls Tryz.prog 54 #[.pointer (some ⟨w1.heap.size,0,none⟩),.string s] wz fun e w'=>e= .returned (.tuple #[.int .i64 s.size,.nilIface])∧TW w1 (l++s.data.toList) w'∧FarB w1.heap.size wz w':=by
 refine (FS s h.1 (by omega) h.2.size).mono ?_;rintro e w' ⟨rfl,g1,g2,g3⟩;exact ⟨rfl,⟨g1,h.2.trans g2⟩,g3⟩
theorem CD (w:World) (B:Nat) (t u ty e:TypeId) (i:TypeInfo) (ht:Tryz.prog.underlying t=some (.slice e)) (hu:Tryz.prog.underlying u=some .string) (hi:Tryz.prog.info? e=some i) (hz:i.zero=some (.int .u8 0)) (hsize:i.size=1) (hby:i.bytes=1)
 (v:Value) (n:Nat) (xs:List Value) (hown:w.ownsRow B e 1 v n xs) (s:ByteArray) (hs:s.size≤1000) (hb:(n+s.size)+(n+s.size) / 4+192≤281474976710656) (hB:B≤w.heap.size):
 ∃ v' w',(Builtin.append_ #[t,u] ty #[v,.string s]).run Tryz.prog w= .ok v' w'∧w'.ownsRow B e 1 v' (n+s.size) (xs++Lib.strCells s)∧w.grownBy w' v.ownBlock:=by
 by_cases hsm:n+s.size≤140737488355328
 · obtain ⟨v',w',h1,h2,h3,_⟩:=Lib.run_append_own_string (P:=Tryz.prog) w B t u ty e i ht hu hi hz hsize hby v n xs hown s (by unfold maxLen;omega) hsm hB
   exact ⟨v',w',h1,h2,h3⟩
 · have hxl:xs.length=n:=by simpa using hown.1
   have hlen:(xs++Lib.strCells s).length=(n+s.size)*1:=by rw [List.length_append,hxl,Lib.strCells_length,Nat.mul_one]
   rcases hown.2 with ⟨_,rfl⟩|⟨g,cap,cur,rfl,hbg,hg,hnc,hcm,hcs,htk⟩
   · omega
   · rw [Nat.mul_one] at hcs htk
     by_cases hroom:n+s.size≤cap
     · have hr:=Lib.run_append_room_string (P:=Tryz.prog) w t u ty e i ht hu hi hsize g n cap cur hg s hroom (by omega)
       refine ⟨_,_,hr,⟨hlen,Or.inr ⟨g,cap,_,rfl,hbg,setRow_heap w g cur _ e _ hg,hroom,hcm,?_,?_⟩⟩,⟨rfl,rfl,rfl,by simp,fun k _ hk=>setRow_other w g k _ (fun e=>hk (by simp [Value.ownBlock,e]))⟩⟩
       · simp only [List.size_toArray,List.length_append,List.length_take,List.length_drop,Array.length_toList,Lib.strCells_length]
         omega
       · rw [htk,←hlen]
         exact List.take_left
     · have hr:=Lib.run_append_grow_string (P:=Tryz.prog) w t u ty e i (.int .u8 0) ht hu hi hz ⟨g,0,none⟩ n cap xs (by rw [hsize];omega) (hown.cells (g:=g) rfl) s (by omega) (by omega) (growslice_fits_wide (by omega) (by rw [hby];omega))
       have hge:=grownCap_ge w (n+s.size) cap e;have hcm2:grownCap w (n+s.size) cap e≤maxLen:=grownCap_le_maxLen w (n+s.size) cap e (by unfold maxLen;omega);refine ⟨_,_,hr,⟨hlen,Or.inr ⟨w.heap.size,_,_,rfl,hB,heap_alloc_new w.drew _,hge,hcm2,?_,?_⟩⟩,⟨rfl,rfl,rfl,by simp,fun k hk _=>heap_alloc_old w.drew _ hk⟩⟩
       · have hz1:(Value.int IntKind.u8 0).cells.size=1:=rfl
         simp only [Array.size_append,List.size_toArray,size_zeroCells,hz1,hxl,Lib.strCells_length];omega
       · simp only [Array.toList_append,List.append_assoc]
         rw [←List.append_assoc,←hlen];exact List.take_left
theorem Ay {w:World} {ops:Array Oper} {rest:List Oper} {o:Oper} {a:Act} {Q:Exit→Act→World→Prop} (hgd:o.guard=none) (sl x:Operand) (t u:TypeId)
 (ho:o.op= .call { callee:= .builtin .append,args:= #[sl,x],argTypes:= #[t,u] })
 (B:Nat) (e:TypeId) (i:TypeInfo) (ht:Tryz.prog.underlying t=some (.slice e)) (hu:Tryz.prog.underlying u=some .string) (hi:Tryz.prog.info? e=some i) (hz:i.zero=some (.int .u8 0)) (hsize:i.size=1) (hby:i.bytes=1)
 (v:Value) (n:Nat) (xs:List Value) (hs:a.eval sl=v) (hown:w.ownsRow B e 1 v n xs) (s:ByteArray) (hx:a.eval x= .string s) (hss:s.size≤1000) (hb:(n+s.size)+(n+s.size) / 4+192≤281474976710656) (hB:B≤w.heap.size)
 (h:∀ v' w',w'.ownsRow B e 1 v' (n+s.size) (xs++Lib.strCells s)→w.grownBy w' v.ownBlock→wpList Tryz.prog ops Q rest (a.put o.dst v') w'):wpList Tryz.prog ops Q (o::rest) a w:=by
 refine wpList_plain hgd fun K hK=> ?_
 obtain ⟨v',w',hr,h2,h3⟩:=CD w B t u o.type e i ht hu hi hz hsize hby v n xs hown s hss hb hB;unfold Oper.wp execOp;simp only [ho,resolve,invoke,builtin,Sem.run_bind,Sem.run_pure,Result.andThen_ok,List.map_toArray,List.map_cons,List.map_nil,hs,hx,hr];exact hK _ _ (h v' w' h2 h3)
set_option maxHeartbeats 1600000 in
theorem SU {B b:Nat} {l:Sc.Bs} {w:World} (s:ByteArray) (h:Sc.Bld B b l w) (hss:s.size≤1000) (hl:(l.length+s.size)+(l.length+s.size) / 4+192≤281474976710656) (hB:B≤w.heap.size):
 Calls Tryz.prog 54 #[.pointer (some ⟨b,0,none⟩),.string s] w fun e w'=>e= .returned (.tuple #[.int .i64 s.size,.nilIface])∧Sc.Bld B b (l++s.data.toList) w'∧Below B w w':=by
 obtain ⟨i0,hi,hz0,hz1,hz2⟩:=Sc.bK Sc.PD;have HC:=aB (zP h);have hlc:(Lib.byteCells l).length=l.length:=Lib.byteCells_length l
 go_enter Tryz.func54,Tryz.ntmps54
 go_wp2_with (go_at_call 106;refine HC.out.mono ?_)
 rintro e w1 ⟨rfl,h1,hb1,hf1⟩;obtain ⟨hBb,v,hbk,hown,hne⟩:=h1;have c0:w1.cell? ⟨b,0,none⟩=some (.pointer (some ⟨b,0,none⟩)):=by rw [Lib.cell_of_heap hbk];rfl
 have c1:w1.cell? ⟨b,1,none⟩=some v:=by rw [Lib.cell_of_heap hbk];rfl
 have hs1:=hb1.size
 go_wp2_with (at_builtin;refine Ay rfl _ _ 116 9 rfl B 5 i0 Tryz.underlying116 Tryz.underlying9 hi hz0 hz1 hz2 _ _ _ rfl hown s rfl hss (by rw [hlc];omega) (by omega) ?_)
 intro v' w2 hown' hgrow;have hlt:b<w1.heap.size:=(Array.getElem?_eq_some_iff.1 hbk).1
 have hb2:w2.heap[b]? =some (.cells #[.pointer (some ⟨b,0,none⟩),v] 118 (0,0)):=by
  rw [hgrow.block b hlt (fun e=>hne e.symm)];exact hbk
 have d0:w2.cell? ⟨b,0,none⟩=some (.pointer (some ⟨b,0,none⟩)):=by rw [Lib.cell_of_heap hb2];rfl
 have d1:w2.cell? ⟨b,1,none⟩=some v:=by rw [Lib.cell_of_heap hb2];rfl
 have f1:w2.frozen? ⟨b,1,none⟩=false:=Lib.frozen_of_heap hb2 1
 obtain ⟨ao,n',cap,rfl⟩:∃ ao n' cap,v'= .slice ao n' cap:=by
  rcases hown'.2 with ⟨hv,_⟩|⟨g,cap,cur,hv,_⟩
  · exact ⟨_,_,_,hv⟩
  · exact ⟨_,_,_,hv⟩
 clear hf1
 go_wp2
 go_ret2;refine ⟨rfl,Or.inr ?_,?_⟩
 · refine Lib.BuilderAt.put (T:=118) (e:=5) hBb hb2 ?_ (by decide)
   rw [Lib.byteCells_append,List.length_append,←Lib.strCells_eq,hlc]
   simpa [Lib.strCells_length] using hown'
 · exact (hb1.grown hgrow (by omega) (fun k hk=>(hown.lt k hk).1)).setCell (p:=⟨b,1,none⟩) hBb _
def fU:ByteArray:=⟨#[47,109,111,100,117,108,101,115,47]⟩
def aZ (L:List ByteArray):Sc.Bs:=L.flatMap fun s=>fU.data.toList++s.data.toList
theorem oJ (L:List ByteArray) (s:ByteArray):aZ (L++[s])=aZ L++fU.data.toList++s.data.toList:=by simp [aZ]
def aT (L:List ByteArray):Bool:=L.all fun s=>Sc.aK s.data.toList
theorem rQ {s:ByteArray} (h:Sc.aK s.data.toList=true):s.size≤16:=by unfold Sc.aK at h;rw [Bool.and_eq_true,decide_eq_true_eq,aI] at h;exact h.2
theorem zQ:∀ {L:List ByteArray},aT L=true→(aZ L).length≤25*L.length
 |[],_=>by simp [aZ]
 |s::L,h=>by
  unfold aT at h;rw [List.all_cons,Bool.and_eq_true] at h;have ih:=zQ (L:=L) h.2;have hs:=rQ h.1
  have e:(aZ (s::L)).length=9+s.size+(aZ L).length:=by
   unfold aZ;rw [List.flatMap_cons,List.length_append,List.length_append];rfl
  rw [e,List.length_cons];omega
def aH (L:List ByteArray):ByteArray:=if L=[] then ⟨#[47]⟩ else if aT L=true then ⟨(aZ L).toArray⟩ else ⟨#[]⟩
theorem LO {L:List ByteArray} {k:Nat} (hk:k<L.length):aT (L.take (k+1))=(aT (L.take k)&&Sc.aK L[k].data.toList):=by
 unfold aT;rw [List.take_succ_eq_append_getElem hk,List.all_append]
 simp
theorem SV {L:List ByteArray} {k:Nat} (hk:k<L.length) (h:Sc.aK L[k].data.toList=false):aT L=false:=by
 unfold aT;rw [List.all_eq_false];exact ⟨_,List.getElem_mem hk,by rw [h];simp⟩
set_option maxHeartbeats 3200000 in
theorem kP {L:List ByteArray} {v:Value} {w:World} (h:PathAt w v L) (hz:L.length*16≤140737488355328):
 Calls Tryz.prog 16 #[v] w fun e w'=>e= .returned (.string (aH L))∧Below w.heap.size w w':=by
 have HP:Hid (∀ w1,Below w.heap.size w w1→PathAt w1 v L):=fun w1 hb=>h.below hb
 obtain ⟨ad,cap,rfl⟩:=h.sl;clear h
 by_cases h0:L=[]
 · subst h0
   have HR:Hid (aH []=⟨#[47]⟩):=rfl;rw [List.length_nil]
   go_enter Tryz.func16,Tryz.ntmps16
   go_wp2
   go_ret;exact ⟨by rw [HR.out];rfl,Below.refl _ _⟩
 · have hpos:0<L.length:=List.length_pos_iff.2 h0
   have HNO:Hid (aT L=false→aH L=⟨#[]⟩):=fun e=>by unfold aH;rw [if_neg h0,if_neg (by rw [e];simp)]
   have HYE:Hid (aT L=true→aH L=⟨(aZ L).toArray⟩):=fun e=>by unfold aH;rw [if_neg h0,if_pos e]
   have HNA:Hid (∀ s w1,Calls Tryz.prog 53 #[.string s] w1 fun e w'=>e= .returned (.bool (Sc.aK s.data.toList))∧w'=w1):=fun s w1=>Sc.eK s w1
   have HW:Hid (∀ l wz s,TW w l wz→s.size≤1000→l.length≤219902325555300→Calls Tryz.prog 54 #[.pointer (some ⟨w.heap.size,0,none⟩),.string s] wz fun e w'=>e= .returned (.tuple #[.int .i64 s.size,.nilIface])∧TW w (l++s.data.toList) w'):=fun l wz s h1 h2 h3=>by
    refine (SU s h1.1 h2 (by omega) h1.2.size).mono ?_;rintro e w' ⟨rfl,g1,g2⟩;exact ⟨rfl,g1,h1.2.trans g2⟩
   have HST:Hid (∀ l wz,TW w l wz→Calls Tryz.prog 55 #[.pointer (some ⟨w.heap.size,0,none⟩)] wz fun e w2=>e= .returned (.string ⟨l.toArray⟩)∧Below w.heap.size wz w2):=fun l w' h=>Tryz.Builder_String_any _ _ l w' h.1 h.2.size
   have HT0:Hid (TW w [] (w.alloc (.cells #[.pointer none,.slice none 0 0] 118))):=TW.new w
   have HL:Hid (∀ k,k≤L.length→aT (L.take k)=true→(aZ (L.take k)).length≤219902325555200):=fun k hk hn=>by
    have:=zQ hn
    rw [List.length_take] at this;omega
   have hne0:((L.length:Int)==0)=false:=by rw [beq_eq_false_iff_ne];omega
   go_enter Tryz.func16,Tryz.ntmps16
   go_wp2_with fail
   go_loopw [11] (fun i wr=>∃ k:Nat,k≤L.length∧i= .int .i64 k∧TW w (aZ (L.take k)) wr∧aT (L.take k)=true) (fun i _=>L.length - (intOf i).toNat)
   case atStart=>exact ⟨0,Nat.zero_le _,rfl,HT0.out,rfl⟩
   case round=>
    obtain ⟨k,hk,rfl,htw,hns⟩:=hrel;have HTW:=aB htw
    by_cases hlt:k<L.length
    · obtain ⟨ad',cap',e,_,hcs⟩:=HP.out wr htw.2
      cases e
      obtain ⟨g,o,rfl,hcz⟩:∃ g o,ad=some ⟨g,o,none⟩∧∀ i (h:i<L.length),StIn wr g (o+i) L[i]:=by
       rcases hcs with h|h
       · exact absurd h h0
       · exact h
      clear hcs;obtain ⟨c0,c1⟩:=hcz k hlt;have HLK:=aB (HL.out k hk hns)
      have HTS:Hid (aZ (L.take (k+1))=aZ (L.take k)++fU.data.toList++L[k].data.toList):=by
       unfold Hid;rw [List.take_succ_eq_append_getElem hlt,oJ]
      have HNT:Hid (Sc.aK L[k].data.toList=true→aT (L.take (k+1))=true):=fun e=>by rw [LO hlt,hns,e];rfl
      have HNB:Hid (Sc.aK L[k].data.toList=false→aT L=false):=fun e=>SV hlt e
      clear hcz htw hns;have HNM:=aB (HNA.out L[k]);generalize L[k]=s at*;cases hn:Sc.aK s.data.toList
      · have HR:=aB (HNO.out (HNB.out hn))
        rw [hn] at HNM;clear HNT HNB HNO HYE
        go_wp2_with (go_at_call 53;refine (HNM.out _).mono ?_;rintro e w1 ⟨rfl,hw1⟩;subst w1)
        go_ret;exact ⟨by rw [HR.out];rfl,HTW.out.2⟩
      · have HR:=aB (HNT.out hn)
        rw [hn] at HNM;have hs16:s.size≤16:=rQ hn;have hms:fU.size=9:=rfl;clear HNT HNB HNO HYE;have t1:True:=trivial
        go_wp2_with (first
         |(go_at_call 53;refine (HNM.out _).mono ?_;rintro e w1 ⟨rfl,hw1⟩;subst w1)
         |(have _t:=t1;go_at_call 54;refine (HW.out (aZ (L.take k)) _ fU HTW.out (by omega) (by have:=HLK.out;omega)).mono ?_;rintro e w2 ⟨rfl,ok⟩;have HT2:=aB ok;clear ok t1)
         |(have _t:=HT2;go_at_call 54;refine (HW.out (aZ (L.take k)++fU.data.toList) _ s HT2.out (by omega) (by have:=HLK.out;rw [List.length_append,aI];omega)).mono ?_;rintro e w3 ⟨rfl,ok⟩;have HT3:=aB ok;clear ok))
        exact ⟨⟨k+1,by omega,by go_num,by rw [HTS.out];exact HT3.out,HR.out⟩,by simp [intOf];omega⟩
    · obtain rfl:k=L.length:=by omega
      have HTE:Hid (TW w (aZ L) wr):=by have e:=HTW.out;rw [List.take_length] at e;exact e
      have HR:Hid (aH L=⟨(aZ L).toArray⟩):=HYE.out (by rw [List.take_length] at hns;exact hns);clear htw hns HTW
      go_wp2_with (go_at_call 55;refine (HST.out _ _ HTE.out).mono ?_;rintro e w6 ⟨rfl,ok⟩;have HB6:=aB (HTE.out.2.trans ok);clear ok)
      go_ret;exact ⟨by rw [HR.out];rfl,HB6.out⟩
def fA (L:List ByteArray):Bool:=decide (0<L.length)&&aT L&&decide ((aZ L).length≤1024)
theorem CE {L:List ByteArray} {v:Value} {w:World} (h:PathAt w v L) (hz:L.length*16≤140737488355328):
 Calls Tryz.prog 202 #[v] w fun e w'=>e= .returned (.bool (fA L))∧Below w.heap.size w w':=by
 have HT:=aB (kP h hz);obtain ⟨ad,cap,rfl⟩:=h.sl;clear h;cases L with
 |nil=>
  have HR:Hid (fA []=false):=rfl;rw [List.length_nil] at HT ⊢
  go_enter Tryz.func202,Tryz.ntmps202
  go_wp2_with (go_at_call 16;refine HT.out.mono ?_;rintro e w1 ⟨rfl,ok⟩)
  go_ret;exact ⟨aD HR.out.symm,ok⟩
 |cons s L=>
  have hp:(0:Int)<(((s::L).length:Nat):Int):=by rw [List.length_cons];omega
  cases hn:aT (s::L)
  · have HR:Hid (fA (s::L)=false):=by unfold Hid fA;rw [hn];simp
    have e0:aH (s::L)=⟨#[]⟩:=by unfold aH;rw [if_neg (by simp),if_neg (by rw [hn];simp)]
    rw [e0] at HT;generalize (s::L).length=m at*
    go_enter Tryz.func202,Tryz.ntmps202
    go_wp2_with (go_at_call 16;refine HT.out.mono ?_;rintro e w1 ⟨rfl,ok⟩)
    go_ret;exact ⟨aD HR.out.symm,ok⟩
  · have HR:Hid (fA (s::L)=decide ((aZ (s::L)).length≤1024)):=by unfold Hid fA;rw [hn];simp
    have e0:aH (s::L)=⟨(aZ (s::L)).toArray⟩:=by unfold aH;rw [if_neg (by simp),if_pos hn]
    rw [e0] at HT;have HSZ:Hid ((⟨(aZ (s::L)).toArray⟩:ByteArray).size=(aZ (s::L)).length):=by show (aZ (s::L)).toArray.size=_;simp
    have HNE:Hid ((⟨(aZ (s::L)).toArray⟩:ByteArray).toList.isEmpty=false):=by unfold Hid;rw [ByteArray.toList_eq];simp [aZ,fU]
    generalize (⟨(aZ (s::L)).toArray⟩:ByteArray)=tx at*;generalize (s::L).length=m at*;rw [←HSZ.out] at HR;have hne:=HNE.out
    by_cases hl:tx.size≤1024
    · rw [decide_eq_true hl] at HR
      have hli:decide ((tx.size:Int)≤1024)=true:=decide_eq_true (by omega)
      go_enter Tryz.func202,Tryz.ntmps202
      go_wp2_with (go_at_call 16;refine HT.out.mono ?_;rintro e w1 ⟨rfl,ok⟩)
      go_ret;exact ⟨aD (by rw [HR.out]),ok⟩
    · rw [decide_eq_false hl] at HR
      have hli:decide ((tx.size:Int)≤1024)=false:=decide_eq_false (by omega)
      go_enter Tryz.func202,Tryz.ntmps202
      go_wp2_with (go_at_call 16;refine HT.out.mono ?_;rintro e w1 ⟨rfl,ok⟩)
      go_ret;exact ⟨aD (by rw [HR.out]),ok⟩
theorem zR (s:ByteArray) (a b c:Int) (a1 a2 a3:Option Addr) (l1 l2 l3 c1 c2 c3:Nat) (w:World):
 Calls Tryz.prog 176 #[.agg #[.string s,.int .i64 a,.int .i64 b,.int .i64 c,.slice a1 l1 c1,.slice a2 l2 c2,.slice a3 l3 c3]] w fun e w'=>e= .returned (.agg #[.slice a1 l1 c1,.slice a2 l2 c2,.slice a3 l3 c3])∧Below w.heap.size w w':=by
 go_enter Tryz.func176,Tryz.ntmps176
 go_wp2
 try simp only [Exit.inBlock,Exit.then]
 refine bodyPost_ret (by simp [results,Tryz.results176,go_sem];try rfl) rfl ?_;exact ⟨rfl,aS _ _ _⟩
theorem FV (x y z:Value) (w:World):(Instr.index 225 (.agg #[x,y,z]) (.int .i64 0)).run Tryz.prog w= .ok x w:=by kernel_rfl
theorem FW (x y z:Value) (w:World):(Instr.index 225 (.agg #[x,y,z]) (.int .i64 1)).run Tryz.prog w= .ok y w:=by kernel_rfl
theorem FX (x y z:Value) (w:World):(Instr.index 225 (.agg #[x,y,z]) (.int .i64 2)).run Tryz.prog w= .ok z w:=by kernel_rfl
noncomputable def FY (P:Pg):Bool:=jD [P.d,P.p,P.o]
theorem Ei {w:World} {P:Pg} {v1 v2 v3:Value} (h:PgAt w P v1 v2 v3):BZ (w.alloc (.cells #[v1,v2,v3] 22)) w.heap.size 0 [P.d,P.p,P.o]:=by
 refine ⟨by simp,fun k hk=> ?_⟩
 match k,hk with
 |0,_=>exact ⟨v1,by simp,h.1.below (aC _ _)⟩
 |1,_=>exact ⟨v2,by simp,h.2.1.below (aC _ _)⟩
 |2,_=>exact ⟨v3,by simp,h.2.2.below (aC _ _)⟩
theorem Fs {w:World} {P:Pg} {v1 v2 v3:Value} (h:PgAt w P v1 v2 v3) (h1:mN P.d) (h2:mN P.p) (h3:mN P.o):Calls Tryz.prog 198 #[.slice (some ⟨w.heap.size,0,none⟩) 3 3] (w.alloc (.cells #[v1,v2,v3] 22)) fun e w'=>e= .returned (.bool (FY P))∧Below (w.alloc (.cells #[v1,v2,v3] 22)).heap.size (w.alloc (.cells #[v1,v2,v3] 22)) w':=
 FG (Ls:=[P.d,P.p,P.o]) (Ei h) (fun L hL=>by
  simp only [List.mem_cons,List.not_mem_nil,or_false] at hL
  rcases hL with rfl|rfl|rfl<;>assumption) (by simp)
noncomputable def gV (P:Pg):Bool:=Sc.aK P.nm.data.toList&&bB P.a P.b P.c&&(bV P.d&&(bV P.p&&bV P.o))&&FY P
set_option maxHeartbeats 3200000 in
theorem zS {P:Pg} {v1 v2 v3:Value} {w:World} (h:PgAt w P v1 v2 v3):
 Calls Tryz.prog 174 #[.agg #[.string P.nm,.int .i64 P.a,.int .i64 P.b,.int .i64 P.c,v1,v2,v3]] w fun e w'=>e= .returned (.bool (gV P))∧Below w.heap.size w w':=by
 have HN:Hid (∀ w1,Calls Tryz.prog 53 #[.string P.nm] w1 fun e w'=>e= .returned (.bool (Sc.aK P.nm.data.toList))∧w'=w1):=Sc.eK P.nm;have HV:Hid (∀ w1,Calls Tryz.prog 159 #[.agg #[.int .i64 P.a,.int .i64 P.b,.int .i64 P.c]] w1 fun e w'=>e= .returned (.bool (bB P.a P.b P.c))∧Below w1.heap.size w1 w'):=jP _ _ _;have HM1:Hid (∀ w1,Below w.heap.size w w1→Calls Tryz.prog 197 #[v1] w1 fun e w'=>e= .returned (.bool (bV P.d))∧Below w1.heap.size w1 w'):=fun w1 hb=>eL (h.1.below hb)
 have HM2:Hid (∀ w1,Below w.heap.size w w1→Calls Tryz.prog 197 #[v2] w1 fun e w'=>e= .returned (.bool (bV P.p))∧Below w1.heap.size w1 w'):=fun w1 hb=>eL (h.2.1.below hb)
 have HM3:Hid (∀ w1,Below w.heap.size w w1→Calls Tryz.prog 197 #[v3] w1 fun e w'=>e= .returned (.bool (bV P.o))∧Below w1.heap.size w1 w'):=fun w1 hb=>eL (h.2.2.below hb)
 have HEO:Hid (bV P.d=true→bV P.p=true→bV P.o=true→∀ w1,Below w.heap.size w w1→Calls Tryz.prog 198 #[.slice (some ⟨w1.heap.size,0,none⟩) 3 3] (w1.alloc (.cells #[v1,v2,v3] 22)) fun e w'=>e= .returned (.bool (FY P))∧Below (w1.alloc (.cells #[v1,v2,v3] 22)).heap.size (w1.alloc (.cells #[v1,v2,v3] 22)) w'):=fun h1 h2 h3 w1 hb=>Fs (h.below hb) (eE h1) (eE h2) (eE h3)
 have HSB:Hid (gV P=(Sc.aK P.nm.data.toList&&bB P.a P.b P.c&&(bV P.d&&(bV P.p&&bV P.o))&&FY P)):=rfl;obtain ⟨a1,c1,rfl⟩:=h.1.sl;obtain ⟨a2,c2,rfl⟩:=h.2.1.sl;obtain ⟨a3,c3,rfl⟩:=h.2.2.sl;have HLI:Hid (∀ w1,Calls Tryz.prog 176 #[.agg #[.string P.nm,.int .i64 P.a,.int .i64 P.b,.int .i64 P.c,.slice a1 P.d.length c1,.slice a2 P.p.length c2,.slice a3 P.o.length c3]] w1 fun e w'=>e= .returned (.agg #[.slice a1 P.d.length c1,.slice a2 P.p.length c2,.slice a3 P.o.length c3])∧Below w1.heap.size w1 w'):=zR _ _ _ _ _ _ _ _ _ _ _ _ _;clear h;generalize gV P=SB at*;generalize FY P=ob at*;generalize bV P.d=m1 at*;generalize bV P.p=m2 at*;generalize bV P.o=m3 at*;generalize Sc.aK P.nm.data.toList=nb at*;generalize bB P.a P.b P.c=vb at*;generalize P.d.length=l1 at*;generalize P.p.length=l2 at*;generalize P.o.length=l3 at*;generalize P.nm=s at*;generalize P.a=a at*;generalize P.b=b at*
 generalize P.c=c at*;have HBX:Hid (BxP (w.alloc (.cells #[.string s,.int .i64 a,.int .i64 b,.int .i64 c,.slice a1 l1 c1,.slice a2 l2 c2,.slice a3 l3 c3] 54)) w.heap.size s a b c (.slice a1 l1 c1) (.slice a2 l2 c2) (.slice a3 l3 c3)):=BxP.new rfl _ _ _ _ _ _ _;have HKB:Hid (KeepP fun w1=>BxP w1 w.heap.size s a b c (.slice a1 l1 c1) (.slice a2 l2 c2) (.slice a3 l3 c3)):=gE _ _ _ _ _ _ _ _;have ix0:=FV;have ix1:=FW;have ix2:=FX;cases nb
 · have HR:Hid (SB=false):=by unfold Hid;rw [HSB.out];rfl
   go_enter Tryz.func174,Tryz.ntmps174
   go_wp2_with (go_at_call 53;refine (HN.out _).mono ?_;rintro e w1 ⟨rfl,rfl⟩)
   go_ret;exact ⟨aD HR.out.symm,aC _ _⟩
 · cases vb
   · have HR:Hid (SB=false):=by unfold Hid;rw [HSB.out];rfl
     go_enter Tryz.func174,Tryz.ntmps174
     go_wp2_with (first
      |(go_at_call 53;refine (HN.out _).mono ?_;rintro e w1 ⟨rfl,rfl⟩)
      |(go_at_call 159;refine (HV.out _).mono ?_;rintro e w2 ⟨rfl,ok⟩;have HO2:=aB (aA (aC _ _) ok);clear ok))
     go_ret;exact ⟨aD HR.out.symm,HO2.out⟩
   · go_enter Tryz.func174,Tryz.ntmps174
     go_wp2_with (first
      |(go_at_call 53;refine (HN.out _).mono ?_;rintro e w1 ⟨rfl,rfl⟩)
      |(go_at_call 159;refine (HV.out _).mono ?_;rintro e w2 ⟨rfl,ok⟩;have HO2:=aB (aA (aC _ _) ok);have HB2:=aB (HKB.out _ _ HBX.out ok);obtain ⟨k0,k1,k2,k3,k4,k5,k6,k7⟩:=HB2.out;clear ok)
      |(go_at_call 176;refine (HLI.out _).mono ?_;rintro e w3 ⟨rfl,ok⟩;have HO3:Hid (Below w.heap.size w w3∧BxP w3 w.heap.size s a b c (.slice a1 l1 c1) (.slice a2 l2 c2) (.slice a3 l3 c3)):=⟨aA HO2.out ok,HKB.out _ _ HB2.out ok⟩;clear ok))
     clear k0 k1 k2 k3 k4 k5 k6 k7
     go_loopw [17] (fun i wr=>∃ k:Nat,k≤3∧i= .int .i64 k∧(Below w.heap.size w wr∧BxP wr w.heap.size s a b c (.slice a1 l1 c1) (.slice a2 l2 c2) (.slice a3 l3 c3))∧(1≤k→m1=true)∧(2≤k→m2=true)∧(3≤k→m3=true)) (fun i _=>3 - (intOf i).toNat)
     case atStart=>exact ⟨0,Nat.zero_le _,rfl,HO3.out,(fun h=>by omega),(fun h=>by omega),(fun h=>by omega)⟩
     case round=>
      obtain ⟨k,hk,rfl,hb,e1,e2,e3⟩:=hrel;have HB:=aB hb
      rcases (show k=0∨k=1∨k=2∨k=3 by omega) with rfl|rfl|rfl|rfl
      · clear hb e1 e2 e3
        cases m1
        · have HR:Hid (SB=false):=by unfold Hid;rw [HSB.out];simp
          go_wp2_with (go_at_call 197;refine (HM1.out _ HB.out.1).mono ?_;rintro e w4 ⟨rfl,ok⟩;have HO4:=aB (aA HB.out.1 ok);clear ok)
          go_ret;exact ⟨aD HR.out.symm,HO4.out⟩
        · go_wp2_with (go_at_call 197;refine (HM1.out _ HB.out.1).mono ?_;rintro e w4 ⟨rfl,ok⟩;have HO4:Hid (Below w.heap.size w w4∧BxP w4 w.heap.size s a b c (.slice a1 l1 c1) (.slice a2 l2 c2) (.slice a3 l3 c3)):=⟨aA HB.out.1 ok,HKB.out _ _ HB.out.2 ok⟩;clear ok)
          exact ⟨⟨1,by omega,rfl,HO4.out,(fun _=>trivial),(fun h=>by omega),(fun h=>by omega)⟩,by simp [intOf]⟩
      · have e1':=e1 (by omega)
        subst e1';clear hb e1 e2 e3;cases m2
        · have HR:Hid (SB=false):=by unfold Hid;rw [HSB.out];simp
          go_wp2_with (go_at_call 197;refine (HM2.out _ HB.out.1).mono ?_;rintro e w4 ⟨rfl,ok⟩;have HO4:=aB (aA HB.out.1 ok);clear ok)
          go_ret;exact ⟨aD HR.out.symm,HO4.out⟩
        · go_wp2_with (go_at_call 197;refine (HM2.out _ HB.out.1).mono ?_;rintro e w4 ⟨rfl,ok⟩;have HO4:Hid (Below w.heap.size w w4∧BxP w4 w.heap.size s a b c (.slice a1 l1 c1) (.slice a2 l2 c2) (.slice a3 l3 c3)):=⟨aA HB.out.1 ok,HKB.out _ _ HB.out.2 ok⟩;clear ok)
          exact ⟨⟨2,by omega,rfl,HO4.out,(fun _=>trivial),(fun _=>trivial),(fun h=>by omega)⟩,by simp [intOf]⟩
      · have e1':=e1 (by omega)
        have e2':=e2 (by omega);subst e1' e2';clear hb e1 e2 e3;cases m3
        · have HR:Hid (SB=false):=by unfold Hid;rw [HSB.out];simp
          go_wp2_with (go_at_call 197;refine (HM3.out _ HB.out.1).mono ?_;rintro e w4 ⟨rfl,ok⟩;have HO4:=aB (aA HB.out.1 ok);clear ok)
          go_ret;exact ⟨aD HR.out.symm,HO4.out⟩
        · go_wp2_with (go_at_call 197;refine (HM3.out _ HB.out.1).mono ?_;rintro e w4 ⟨rfl,ok⟩;have HO4:Hid (Below w.heap.size w w4∧BxP w4 w.heap.size s a b c (.slice a1 l1 c1) (.slice a2 l2 c2) (.slice a3 l3 c3)):=⟨aA HB.out.1 ok,HKB.out _ _ HB.out.2 ok⟩;clear ok)
          exact ⟨⟨3,by omega,rfl,HO4.out,(fun _=>trivial),(fun _=>trivial),(fun _=>trivial)⟩,by simp [intOf]⟩
      · have e1':=e1 (by omega)
        have e2':=e2 (by omega);have e3':=e3 (by omega);subst e1' e2' e3';have HR:Hid (SB=ob):=by unfold Hid;rw [HSB.out];simp
        have HEW:=aB (HEO.out rfl rfl rfl);obtain ⟨k0,k1,k2,k3,k4,k5,k6,k7⟩:=HB.out.2;clear hb e1 e2 e3
        go_wp2_with (go_at_call 198;refine (HEW.out _ HB.out.1).mono ?_;rintro e w4 ⟨rfl,ok⟩;have HO4:=aB (aA (aA HB.out.1 (aC _ _)) ok);clear ok)
        go_ret;exact ⟨aD HR.out.symm,HO4.out⟩
set_option maxHeartbeats 6400000 in
theorem zV {w1 wz:World} {l:Sc.Bs} {v:Value} {L:List Dp} {x:ByteArray} (h:TW w1 l wz) (hd:DepsAt w1 v L) (hm:bV L=true) (he:Env w1) (hf:FL w1) (hx:x.size≤16) (hl:l.length≤1000000):
 Calls Tryz.prog 157 #[.pointer (some ⟨w1.heap.size,0,none⟩),.string x,v] wz fun e w'=>e= .returned (.tuple #[])∧TW w1 (l++bQ x L) w'∧FarB w1.heap.size wz w':=by
 have HD:Hid (∀ w',Below w1.heap.size w1 w'→DepsAt w' v L):=fun w' hb=>hd.below hb
 have HSP:Hid (∀ w2 u (R:List Sp),Below w1.heap.size w1 w2→bZ R=true→SpansC w2 u R→Calls Tryz.prog 199 #[u] w2 fun e w'=>e= .returned (.string (prS R))∧Below w2.heap.size w2 w'):=fun w2 u R hb hr hu=>SS hr hu (he.below hb) (hf.below hb)
 have HAll:Hid (∀ d ∈ L,d.nm.size≤16∧bZ d.rg=true):=by
  have:=hm
  unfold bV at this;rw [Bool.and_eq_true] at this;exact vM this.2
 have HLN:=aB (jE hx hm);have h16:=(eE hm).1
 have HPU:Hid (∀ (l1:Sc.Bs) w2 (s:ByteArray) (N:Nat) (bx:Obj),(TW w1 l1 w2∧FarB w1.heap.size wz w2)∧(w2.heap[N]? =some bx∧(∃ cs,bx= .cells cs 170 (0,0))∧w1.heap.size<N)→l1.length≤2000000→s.size≤1000000→Calls Tryz.prog 54 #[.pointer (some ⟨w1.heap.size,0,none⟩),.string s] w2 fun e w'=>e= .returned (.tuple #[.int .i64 s.size,.nilIface])∧(TW w1 (l1++s.data.toList) w'∧FarB w1.heap.size wz w')∧(w'.heap[N]? =some bx∧(∃ cs,bx= .cells cs 170 (0,0))∧w1.heap.size<N)):=fun l1 w2 s N bx h1 h2 h3=>by
  refine (h1.1.1.put s (by omega) h3).mono ?_;rintro e w' ⟨rfl,g1,g2⟩;obtain ⟨cs,rfl⟩:=h1.2.2.1;exact ⟨rfl,⟨g1,h1.1.2.trans g2⟩,g2 _ _ _ _ h1.2.1 (by decide) (by have:=h1.2.2.2;omega),⟨cs,rfl⟩,h1.2.2.2⟩
 have HT0:Hid (TW w1 l wz∧FarB w1.heap.size wz wz):=⟨h,FarB.refl _ _⟩;obtain ⟨ad,cap,rfl,hcp⟩:=hd.len;clear hd hm he hf h
 go_enter Tryz.func157,Tryz.ntmps157
 go_wp2_with fail
 go_loopw [10] (fun j wq=>∃ m:Nat,m≤L.length∧j= .int .i64 m∧TW w1 (l++bQ x (L.take m)) wq∧FarB w1.heap.size wz wq) (fun j _=>L.length - (intOf j).toNat)
 case atStart=>exact ⟨0,Nat.zero_le _,rfl,by have:=HT0.out;simpa [bQ] using this⟩
 case round=>
  clear HT0;obtain ⟨m,hm,rfl,htq⟩:=hrel;have HTQ:=aB htq
  by_cases hlt:m<L.length
  · obtain ⟨ad',cap',e,_,hcs⟩:=HD.out wr htq.1.2
    cases e
    obtain ⟨g,o,rfl,hg,hcs⟩:∃ g o,ad=some ⟨g,o,none⟩∧g<wr.heap.size∧∀ i (h:i<L.length),∃ u,DpIn wr g (o+i*2) L[i] u:=by
     rcases hcs with h|h
     · rw [h] at hlt;simp at hlt
     · exact h
    obtain ⟨u,p0,p1,⟨hu,_⟩,p3⟩:=hcs m hlt;obtain ⟨au,cu,rfl⟩:=hu.1.sl;obtain ⟨hnz2,hrb⟩:=HAll.out _ (List.getElem_mem hlt);have hpz:=FT hrb;have HSN:=aB (LN (x:=x) hlt)
    have hpl:(l++bQ x (L.take m)).length≤1100000:=by
     have h1:=HLN.out m;rw [List.length_append];omega
    have HUS:Hid (SpansC (wr.alloc (.cells #[.string L[m].nm,.slice au L[m].rg.length cu] 170)) (.slice au L[m].rg.length cu) L[m].rg):=⟨hu.1.below (aC _ _),hu.2⟩;have HUB:Hid (g<wr.heap.size):=hg;have HSPd:=aB (fun w' (hb:Below w1.heap.size w1 w') (hc:SpansC w' (.slice au L[m].rg.length cu) L[m].rg)=>HSP.out w' _ _ hb hrb hc)
    have HO0:Hid ((TW w1 (l++bQ x (L.take m)) (wr.alloc (.cells #[.string L[m].nm,.slice au L[m].rg.length cu] 170))∧FarB w1.heap.size wz (wr.alloc (.cells #[.string L[m].nm,.slice au L[m].rg.length cu] 170)))∧((wr.alloc (.cells #[.string L[m].nm,.slice au L[m].rg.length cu] 170)).heap[wr.heap.size]? =some (.cells #[.string L[m].nm,.slice au L[m].rg.length cu] 170 (0,0))∧(∃ cs,(Obj.cells #[.string L[m].nm,.slice au L[m].rg.length cu] 170 (0,0))= .cells cs 170 (0,0))∧w1.heap.size<wr.heap.size)):=by
     refine ⟨⟨jF _ _ _ _ htq.1 (aC _ _),htq.2.trans (FarB.below (aC _ _))⟩,?_,⟨_,rfl⟩,htq.1.far⟩;show (wr.heap.push _)[wr.heap.size]? =_;rw [Array.getElem?_push,if_pos rfl]
    have HUK:Hid (KeepP fun w'=>SpansC w' (.slice au L[m].rg.length cu) L[m].rg):=fun _ _ h hb=>⟨h.1.below hb,h.2⟩
    have HUW:Hid (∀ w',Below w1.heap.size w1 w'→SpansC w' (.slice au L[m].rg.length cu) L[m].rg):=fun w' hb=>by
     obtain ⟨ad2,cap2,e2,_,hcs2⟩:=HD.out w' hb;cases e2
     rcases hcs2 with h2|⟨g2,o2,e3,hg2,hcs2⟩
     · rw [h2] at hlt;simp at hlt
     · cases e3
       obtain ⟨u2,q0,q1,⟨hu2,_⟩,q3⟩:=hcs2 m hlt;obtain ⟨ad3,cap3,e4,_,hcs3⟩:=HD.out w1 (Below.refl _ _);cases e4
       rcases hcs3 with h4|⟨g4,o4,e5,hg4,hcs4⟩
       · rw [h4] at hlt;simp at hlt
       · cases e5
         obtain ⟨u5,r0,r1,_,_⟩:=hcs4 m hlt;have t1:=(hb.cell (p:=⟨g,o+m*2+1,none⟩) hg4).trans r1;have t2:=(HTQ.out.1.2.cell (p:=⟨g,o+m*2+1,none⟩) hg4).trans r1;rw [q1] at t1;rw [p1] at t2;cases t1;cases t2;exact hu2
    clear hcs hu htq;generalize prS L[m].rg=rt at*;generalize L[m].rg.length=lu at*;generalize L[m].nm=s at*;generalize hlm:l++bQ x (L.take m)=lm at*;have HLM:=aB hlm;clear hlm;have l1:(lm++x.data.toList).length≤1100016:=by rw [List.length_append,aI];omega
    have l2:(lm++x.data.toList++[32]).length≤1100017:=by rw [List.length_append];simp at l1 ⊢;omega
    have l3:(lm++x.data.toList++[32]++s.data.toList).length≤1100033:=by rw [List.length_append,aI];omega
    have l4:(lm++x.data.toList++[32]++s.data.toList++[32]).length≤1100034:=by rw [List.length_append];simp at l3 ⊢;omega
    have l5:(lm++x.data.toList++[32]++s.data.toList++[32]++rt.data.toList).length≤1200000:=by rw [List.length_append,aI];omega
    go_wp2_with (first
     |(have _h:=HO0;go_at_call 54;refine (HPU.out _ _ x _ _ HO0.out (by omega) (by omega)).mono ?_;rintro e w2 ⟨rfl,ok⟩;have HO1:=aB ok;clear ok HO0)
     |(have _h:=HO1;go_at_call 54;refine (HPU.out _ _ ⟨#[32]⟩ _ _ HO1.out (Nat.le_trans l1 (by decide)) (by decide)).mono ?_;rintro e w3 ⟨rfl,ok⟩;have HO2:=aB ok;clear ok HO1;have d0:w3.cell? ⟨wr.heap.size,0,none⟩=some (.string s):=(by rw [Lib.cell_of_heap HO2.out.2.1];rfl))
     |(have _h:=HO2;go_at_call 54;refine (HPU.out _ _ s _ _ HO2.out (Nat.le_trans l2 (by decide)) (by omega)).mono ?_;rintro e w4 ⟨rfl,ok⟩;have HO3:=aB ok;clear ok HO2 d0)
     |(have _h:=HO3;go_at_call 54;refine (HPU.out _ _ ⟨#[32]⟩ _ _ HO3.out (Nat.le_trans l3 (by decide)) (by decide)).mono ?_;rintro e w5 ⟨rfl,ok⟩;have HO4:=aB ok;clear ok HO3;have d1:w5.cell? ⟨wr.heap.size,1,none⟩=some (.slice au lu cu):=(by rw [Lib.cell_of_heap HO4.out.2.1];rfl))
     |(have _h:=HO4;go_at_call 199;refine (HSPd.out _ HO4.out.1.1.2 (HUW.out _ HO4.out.1.1.2)).mono ?_;rintro e w6 ⟨rfl,ok⟩;have HO5:Hid ((TW w1 (lm++x.data.toList++[32]++s.data.toList++[32]) w6∧FarB w1.heap.size wz w6)∧(w6.heap[wr.heap.size]? =some (.cells #[.string s,.slice au lu cu] 170 (0,0))∧(∃ cs,(Obj.cells #[.string s,.slice au lu cu] 170 (0,0))= .cells cs 170 (0,0))∧w1.heap.size<wr.heap.size)):=⟨⟨jF _ _ _ _ HO4.out.1.1 ok,HO4.out.1.2.trans (FarB.below ok)⟩,(ok.block wr.heap.size (Array.getElem?_eq_some_iff.1 HO4.out.2.1).1).trans HO4.out.2.1,HO4.out.2.2⟩;clear ok HO4 d1)
     |(have _h:=HO5;go_at_call 54;refine (HPU.out _ _ rt _ _ HO5.out (Nat.le_trans l4 (by decide)) (by omega)).mono ?_;rintro e w7 ⟨rfl,ok⟩;have HO6:=aB ok;clear ok HO5)
     |(have _h:=HO6;go_at_call 54;refine (HPU.out _ _ ⟨#[10]⟩ _ _ HO6.out (Nat.le_trans l5 (by decide)) (by decide)).mono ?_;rintro e w8 ⟨rfl,ok⟩;have HO7:=aB ok;clear ok HO6))
    refine ⟨⟨m+1,by omega,by go_num,?_,HO7.out.1.2⟩,by simp [intOf];omega⟩;have e:l++bQ x (L.take (m+1))=lm++x.data.toList++[32]++s.data.toList++[32]++rt.data.toList++[10]:=by rw [HSN.out,←HLM.out];unfold iE;simp
    rw [e];exact HO7.out.1.1
  · have HTN:Hid (TW w1 (l++bQ x L) wr∧FarB w1.heap.size wz wr):=by
     have:=HTQ.out
     rw [List.take_of_length_le (by omega)] at this;exact this
    clear htq
    go_wp2
    go_end0
    exact ⟨rfl,HTN.out.1,HTN.out.2⟩
end Go.Proofs.YtmnhnofnlcbliaaGreatDoor
