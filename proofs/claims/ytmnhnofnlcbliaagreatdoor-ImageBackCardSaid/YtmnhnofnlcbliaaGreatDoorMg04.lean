/- Cut1, Cut2, Fo1, Fo2: their declarations that are needed, laid in one text, remarks and blanks left out. -/
import Derived.Test.YtmnhnofnlcbliaaGreatDoorMg03
namespace Go.Proofs.YtmnhnofnlcbliaaGreatDoor
open Go.RowKit
set_option maxRecDepth 100000
def spR (p:Int×Int):Sp:=⟨atA p.1,atB p.1,atC p.1,atA p.2,atB p.2,atC p.2⟩
def okR (n:Int):Prop:=0≤n∧n≤999999999
def uM (p:Int×Int):Prop:=okR p.1∧okR p.2∧p.1≤p.2
theorem okR.has {n:Int} (h:okR n):jX n=true:=by unfold jX;simp;unfold okR at h;omega
theorem VN {r s:Int} (hr:okR r) (hs:okR s):(iP (atA r) (atB r) (atC r) (atA s) (atB s) (atC s)<0↔r<s)∧(0<iP (atA r) (atB r) (atC r) (atA s) (atB s) (atC s)↔s<r):=by
 obtain ⟨m1,e1⟩:=gQ hr.has;obtain ⟨m2,e2⟩:=gQ hs.has;have h1:=mG m1 m2;have h2:=mG m2 m1;rw [e1,e2] at h1;rw [e1,e2] at h2;refine ⟨h1,?_⟩;rw [←h2,OM (atA s)];omega
theorem lH {r s:Int} (hr:okR r) (hs:okR s):∃ q:Int,(q<0↔r<s)∧(0<q↔s<r)∧∀ w1,Calls Tryz.prog 288 #[.agg #[.int .i64 (atA r),.int .i64 (atB r),.int .i64 (atC r)],.agg #[.int .i64 (atA s),.int .i64 (atB s),.int .i64 (atC s)]] w1 fun e w'=>e= .returned (.int .i64 q)∧Below w1.heap.size w1 w':=
 ⟨_,(VN hr hs).1,(VN hr hs).2,mD _ _ _ _ _ _⟩
theorem OR {r:Int} (h0:0≤r) (h1:r<999999999):∀ w1,Calls Tryz.prog 289 #[.agg #[.int .i64 (atA r),.int .i64 (atB r),.int .i64 (atC r)]] w1 fun e w'=>e= .returned (.tuple #[.agg #[.int .i64 (atA (r+1)),.int .i64 (atB (r+1)),.int .i64 (atC (r+1))],.bool true])∧Below w1.heap.size w1 w':=by
 obtain ⟨m,e⟩:=gQ (n:=r) (okR.has ⟨h0,by omega⟩)
 have:=DW (atA r) (atB r) (atC r)
 obtain ⟨e1,e2,e3⟩:=VI (k:=1) m;rw [e1,e2,e3,ON m,e,decide_eq_true h1] at this;exact this
theorem Ag {r:Int} (h0:0<r) (h1:r≤999999999):∀ w1,Calls Tryz.prog 306 #[.agg #[.int .i64 (atA r),.int .i64 (atB r),.int .i64 (atC r)]] w1 fun e w'=>e= .returned (.tuple #[.agg #[.int .i64 (atA (r - 1)),.int .i64 (atB (r - 1)),.int .i64 (atC (r - 1))],.bool true])∧Below w1.heap.size w1 w':=by
 obtain ⟨m,e⟩:=gQ (n:=r) (okR.has ⟨by omega,by omega⟩)
 have:=VF (atA r) (atB r) (atC r)
 obtain ⟨e1,e2,e3⟩:=VI (k:= -1) m;rw [e1,e2,e3,Ae m,e,decide_eq_true h0] at this;exact this
def SpansR (w:World) (v:Value) (L:Rg):Prop:=∃ ad cap,v= .slice ad L.length cap∧L.length≤cap∧(L=[]∨∃ g o,ad=some ⟨g,o,none⟩∧g<w.heap.size∧∀ i (h:i<L.length),SpAt w g (o+i*6) (spR L[i]))
theorem SpansR.below {w w':World} {v:Value} {L:Rg} (h:SpansR w v L) (hb:Below w.heap.size w w'):SpansR w' v L:=by
 obtain ⟨ad,cap,hv,hc,hl⟩:=h;refine ⟨ad,cap,hv,hc,hl.imp id ?_⟩;rintro ⟨g,o,ha,hg,hs⟩;exact ⟨g,o,ha,Nat.lt_of_lt_of_le hg hb.size,fun i hi=>(hs i hi).below hb hg⟩
theorem SpansR.tail {w:World} {g o cap:Nat} {p:Int×Int} {B:Rg} (h:SpansR w (.slice (some ⟨g,o,none⟩) (p::B).length cap) (p::B)):SpansR w (.slice (if cap=1 then some ⟨g,o,none⟩ else some ⟨g,o+6,none⟩) B.length (cap - 1)) B:=by
 obtain ⟨ad,cap',hv,hc,hl⟩:=h;cases hv
 rcases hl with hl|⟨g',o',hq,hg,hs⟩
 · cases hl
 cases hq;simp only [List.length_cons] at hc;refine ⟨_,_,rfl,by omega,?_⟩
 by_cases h1:cap=1
 · left
   exact List.eq_nil_of_length_eq_zero (by omega)
 · right
   refine ⟨g,o+6,by rw [if_neg h1],hg,fun i hi=> ?_⟩
   have:=hs (i+1) (by simp;omega)
   simp only [List.getElem_cons_succ] at this;have e:o+(i+1)*6=o+6+i*6:=by omega
   rw [e] at this;exact this
def Bx6F (w:World) (N:Nat) (a b c x y z:Int):Prop:=Bx6 w N a b c x y z∧w.frozen? ⟨N,0,none⟩=false∧w.frozen? ⟨N,1,none⟩=false∧w.frozen? ⟨N,2,none⟩=false
theorem Bx6F.new {w:World} {N:Nat} (hN:w.heap.size=N) (a b c x y z:Int):Bx6F (w.alloc (.cells #[.int .i64 a,.int .i64 b,.int .i64 c,.int .i64 x,.int .i64 y,.int .i64 z] 210)) N a b c x y z:=by
 refine ⟨Bx6.new hN _ _ _ _ _ _,?_⟩;subst hN;refine ⟨?_,?_,?_⟩<;>simp
theorem Bx6F.below {w w':World} {N:Nat} {a b c x y z:Int} (h:Bx6F w N a b c x y z) (hb:Below w.heap.size w w'):Bx6F w' N a b c x y z:=by
 obtain ⟨h0,h1,h2,h3⟩:=h;have hl:=h0.2.2.2.2.2.2;exact ⟨h0.below hb,(hb.frozen (p:=⟨N,0,none⟩) hl).trans h1,(hb.frozen (p:=⟨N,1,none⟩) hl).trans h2,(hb.frozen (p:=⟨N,2,none⟩) hl).trans h3⟩
theorem uN (N:Nat) (a b c x y z:Int):KeepP fun w1=>Bx6F w1 N a b c x y z:=fun _ _ h hb=>h.below hb
theorem Bx6F.put {w:World} {N:Nat} {a b c x y z:Int} (h:Bx6F w N a b c x y z) (p q r:Int):Bx6F (((w.setCell ⟨N,0,none⟩ (.int .i64 p)).setCell ⟨N,1,none⟩ (.int .i64 q)).setCell ⟨N,2,none⟩ (.int .i64 r)) N p q r x y z:=by
 obtain ⟨⟨h0,h1,h2,h3,h4,h5,h6⟩,f0,f1,f2⟩:=h;have k1:∀ u,(w.setCell ⟨N,0,none⟩ u).cell? ⟨N,1,none⟩=some (.int .i64 b):=fun u=>(World.cell?_setCell_other _ _ _ _ (by simp)).trans h1
 have k2:∀ u v,((w.setCell ⟨N,0,none⟩ u).setCell ⟨N,1,none⟩ v).cell? ⟨N,2,none⟩=some (.int .i64 c):=fun u v=>(World.cell?_setCell_other _ _ _ _ (by simp)).trans ((World.cell?_setCell_other _ _ _ _ (by simp)).trans h2)
 have far:∀ i,2<i→(((w.setCell ⟨N,0,none⟩ (.int .i64 p)).setCell ⟨N,1,none⟩ (.int .i64 q)).setCell ⟨N,2,none⟩ (.int .i64 r)).cell? ⟨N,i,none⟩=w.cell? ⟨N,i,none⟩:=fun i hi=>by
  rw [World.cell?_setCell_other _ _ _ _ (fun e=>by cases e;omega),World.cell?_setCell_other _ _ _ _ (fun e=>by cases e;omega),World.cell?_setCell_other _ _ _ _ (fun e=>by cases e;omega)]
 refine ⟨⟨?_,?_,?_,?_,?_,?_,by simpa using h6⟩,?_,?_,?_⟩
 · rw [World.cell?_setCell_other _ _ _ _ (by simp),World.cell?_setCell_other _ _ _ _ (by simp)];exact World.cell?_setCell_same _ _ _ h0
 · rw [World.cell?_setCell_other _ _ _ _ (by simp)];exact World.cell?_setCell_same _ _ _ (k1 _)
 · exact World.cell?_setCell_same _ _ _ (k2 _ _)
 · rw [far 3 (by omega)];exact h3
 · rw [far 4 (by omega)];exact h4
 · rw [far 5 (by omega)];exact h5
 · rw [World.frozen?_setCell,World.frozen?_setCell,World.frozen?_setCell];exact f0
 · rw [World.frozen?_setCell,World.frozen?_setCell,World.frozen?_setCell];exact f1
 · rw [World.frozen?_setCell,World.frozen?_setCell,World.frozen?_setCell];exact f2
def dS (L:List Sp):List Value:=L.flatMap fun s=>[.int .i64 s.a,.int .i64 s.b,.int .i64 s.c,.int .i64 s.x,.int .i64 s.y,.int .i64 s.z]
theorem BL (L:List Sp) (s:Sp):dS (L++[s])=dS L++[.int .i64 s.a,.int .i64 s.b,.int .i64 s.c,.int .i64 s.x,.int .i64 s.y,.int .i64 s.z]:=by simp [dS]
def OwnS (w:World) (B:Nat) (v:Value) (L:List Sp):Prop:=w.ownsRow B 210 6 v L.length (dS L)
theorem OwnS.nil (w:World) (B:Nat):OwnS w B (.slice none 0 0) []:=⟨rfl,Or.inl ⟨rfl,rfl⟩⟩
theorem OwnS.lt {w:World} {B:Nat} {v:Value} {L:List Sp} (h:OwnS w B v L) {g:Nat} (hg:v.ownBlock=some g):g<w.heap.size∧B≤g:=by
 rcases h.2 with ⟨rfl,_⟩|⟨g',cap,cur,rfl,hB,hgg,_⟩
 · cases hg
 · cases hg
   exact ⟨by rw [Array.getElem?_eq_some_iff] at hgg;exact hgg.1,hB⟩
theorem OwnS.of_block {w w':World} {B:Nat} {v:Value} {L:List Sp} (h:OwnS w B v L) (hk:∀ g,v.ownBlock=some g→w'.heap[g]? =w.heap[g]?):OwnS w' B v L:=by
 refine ⟨h.1,?_⟩
 rcases h.2 with hn|⟨g,cap,cur,rfl,hB,hgg,r⟩
 · exact Or.inl hn
 · exact Or.inr ⟨g,cap,cur,rfl,hB,(hk g rfl).trans hgg,r⟩
theorem OwnS.below {w w':World} {B:Nat} {v:Value} {L:List Sp} (h:OwnS w B v L) (hb:Below w.heap.size w w'):OwnS w' B v L:=h.of_block fun g hg=>hb.block g (h.lt hg).1
theorem pK (B:Nat) (v:Value) (L:List Sp):KeepP fun w1=>OwnS w1 B v L:=fun _ _ h hb=>h.below hb
theorem OwnS.set {w:World} {B N:Nat} {v:Value} {L:List Sp} (h:OwnS w B v L) (hN:v.ownBlock≠some N) (i:Nat) (u:Value):OwnS (w.setCell ⟨N,i,none⟩ u) B v L:=h.of_block fun g hg=>by
 have hne:N≠g:=fun e=>hN (by rw [e];exact hg)
 exact Below.heap_setCell _ _ _ _ (Ne.symm hne)
theorem Bx6F.grown {w w':World} {N:Nat} {a b c x y z:Int} {row:Option Nat} (h:Bx6F w N a b c x y z) (hg:w.grownBy w' row) (hN:row≠some N):Bx6F w' N a b c x y z:=by
 obtain ⟨⟨h0,h1,h2,h3,h4,h5,h6⟩,f0,f1,f2⟩:=h;have hbl:=hg.block N h6 (fun e=>hN e.symm);have q:∀ i,w'.cell? ⟨N,i,none⟩=w.cell? ⟨N,i,none⟩:=fun i=>World.cell?_of_block (w:=w) hbl
 have r:∀ i,w'.frozen? ⟨N,i,none⟩=w.frozen? ⟨N,i,none⟩:=fun i=>World.frozen?_of_block (w:=w) hbl
 exact ⟨⟨by rw [q];exact h0,by rw [q];exact h1,by rw [q];exact h2,by rw [q];exact h3,by rw [q];exact h4,by rw [q];exact h5,Nat.lt_of_lt_of_le h6 hg.size⟩,by rw [r];exact f0,by rw [r];exact f1,by rw [r];exact f2⟩
theorem Bx6.grown {w w':World} {N:Nat} {a b c x y z:Int} {row:Option Nat} (h:Bx6 w N a b c x y z) (hg:w.grownBy w' row) (hN:row≠some N):Bx6 w' N a b c x y z:=by
 obtain ⟨h0,h1,h2,h3,h4,h5,h6⟩:=h;have hbl:=hg.block N h6 (fun e=>hN e.symm);have q:∀ i,w'.cell? ⟨N,i,none⟩=w.cell? ⟨N,i,none⟩:=fun i=>World.cell?_of_block (w:=w) hbl
 exact ⟨by rw [q];exact h0,by rw [q];exact h1,by rw [q];exact h2,by rw [q];exact h3,by rw [q];exact h4,by rw [q];exact h5,Nat.lt_of_lt_of_le h6 hg.size⟩
def EC:Value→Nat
 | .slice _ n _=>n
 |_=>0
theorem VO:(Tryz.prog.info? 210).map (fun i=>(i.zero,i.size,i.bytes))=some (some (.agg #[.int .i64 0,.int .i64 0,.int .i64 0,.int .i64 0,.int .i64 0,.int .i64 0]),6,48):=by kernel_rfl
def Hi3 (w:World) (g o:Nat) (h:Int):Prop:=w.cell? ⟨g,o+3,none⟩=some (.int .i64 (atA h))∧w.cell? ⟨g,o+4,none⟩=some (.int .i64 (atB h))∧w.cell? ⟨g,o+5,none⟩=some (.int .i64 (atC h))∧g<w.heap.size
theorem Ea (g o:Nat) (h:Int):KeepP fun w1=>Hi3 w1 g o h:=fun _ _ hh hb=>
 ⟨(hb.cell (p:=⟨g,o+3,none⟩) hh.2.2.2).trans hh.1,(hb.cell (p:=⟨g,o+4,none⟩) hh.2.2.2).trans hh.2.1,(hb.cell (p:=⟨g,o+5,none⟩) hh.2.2.2).trans hh.2.2.1,Nat.lt_of_lt_of_le hh.2.2.2 hb.size⟩
theorem Hi3.of {w:World} {g o:Nat} {p:Int×Int} (h:SpAt w g (o+0*6) (spR p)) (hg:g<w.heap.size):Hi3 w g o p.2:=by
 obtain ⟨_,_,_,h3,h4,h5⟩:=h.first
 exact ⟨h3,h4,h5,hg⟩
theorem Dg (w:World) (o:Obj):(w.alloc o).heap.size=w.heap.size+1:=by simp
theorem uO {w wx:World} {uo:Value} {o1:Rg} {N:Nat} {a b c x y z:Int} {ops:Array Oper} {rest:List Oper} {o:Oper} {f:Act} {Q:Exit→Act→World→Prop} (hgd:o.guard=none) (s t:Operand)
 (ho:o.op= .call { callee:= .builtin .append,args:= #[s,t],argTypes:= #[168,168] }) (hs:f.eval s=uo) (p:Int×Int)
 (hK:Below w.heap.size w wx∧Bx6F wx N a b c x y z∧OwnS wx w.heap.size uo (o1.map spR)) {M:Nat} (hM:wx.heap.size=M) (hx:f.eval t= .slice (some ⟨M,0,none⟩) 1 1) (hne:uo.ownBlock≠some N) (hlen:o1.length+1≤1000000000000)
 (h:∀ v1 w1,(Below w.heap.size w w1∧Bx6F w1 N a b c x y z∧OwnS w1 w.heap.size v1 ((o1++[p]).map spR))→v1.ownBlock≠some N→(∀ M i j k l m n,uo.ownBlock≠some M→Bx6 wx M i j k l m n→Bx6 w1 M i j k l m n)→wpList Tryz.prog ops Q rest (f.put o.dst v1) w1):
 wpList Tryz.prog ops Q (o::rest) f (wx.alloc (.cells #[.int .i64 (atA p.1),.int .i64 (atB p.1),.int .i64 (atC p.1),.int .i64 (atA p.2),.int .i64 (atB p.2),.int .i64 (atC p.2)] 210)):=by
 subst hM
 obtain ⟨i0,hi,hz0,hz1,hz2⟩:∃ i,Tryz.prog.info? 210=some i∧i.zero=some (.agg #[.int .i64 0,.int .i64 0,.int .i64 0,.int .i64 0,.int .i64 0,.int .i64 0])∧i.size=6∧i.bytes=48:=by
  have:=VO
  cases hq:Tryz.prog.info? 210 with
  |none=>rw [hq] at this;cases this
  |some i=>
   rw [hq] at this;simp only [Option.map_some,Option.some.injEq,Prod.mk.injEq] at this;exact ⟨i,rfl,this.1,this.2.1,this.2.2⟩
 have hob:OwnS (wx.alloc (.cells #[.int .i64 (atA p.1),.int .i64 (atB p.1),.int .i64 (atC p.1),.int .i64 (atA p.2),.int .i64 (atB p.2),.int .i64 (atC p.2)] 210)) w.heap.size uo (o1.map spR):=hK.2.2.below (aC _ _);have hsz:(wx.alloc (.cells #[.int .i64 (atA p.1),.int .i64 (atB p.1),.int .i64 (atC p.1),.int .i64 (atA p.2),.int .i64 (atB p.2),.int .i64 (atC p.2)] 210)).heap.size=wx.heap.size+1:=by simp
 have hwx:=hK.1.size
 refine wpList_append_own_at _ hgd s t 168 ho w.heap.size 210 i0 _ 6 48 Tryz.underlying168 hi hz0 hz1 hz2 rfl (by decide) uo _ _ hs hob ⟨wx.heap.size,0,none⟩ 1 1 [.int .i64 (atA p.1),.int .i64 (atB p.1),.int .i64 (atC p.1),.int .i64 (atA p.2),.int .i64 (atB p.2),.int .i64 (atC p.2)] hx rfl
  (World.news_of_block (cs:= #[.int .i64 (atA p.1),.int .i64 (atB p.1),.int .i64 (atC p.1),.int .i64 (atA p.2),.int .i64 (atB p.2),.int .i64 (atC p.2)]) (t:=210) (fr:=(0,0)) (by show (wx.heap.push _)[wx.heap.size]? =_;rw [Array.getElem?_push,if_pos rfl])) (by simp [Value.oneCell']) (by unfold maxLen;rw [List.length_map];omega) (by rw [List.length_map];omega) (by omega) ?_
 intro v1 w1 hown1 hg1 _ hat;have hbw:Below w.heap.size w w1:=(aA hK.1 (aC _ _)).grown hg1 (by omega) (fun k hk=>(hK.2.2.lt hk).2);refine h v1 w1 ⟨hbw,(hK.2.1.below (aC _ _)).grown hg1 hne,?_⟩ ?_ ?_
 · unfold OwnS
   rw [List.map_append,List.map_singleton,BL,List.length_append];exact hown1
 · rcases hat with e|e
   · rw [e];exact hne
   · rw [e,hsz]
     intro e2;have h6:=hK.2.1.1.2.2.2.2.2.2
     have:=Option.some.inj e2
     omega
 · intro M i j k l m n hM hbx
   exact (hbx.below (aC _ _)).grown hg1 hM
set_option maxHeartbeats 16000000 in
theorem VP (A B:Rg) (ga oa ca:Nat) (vb:Value) (w:World) (hA:∀ p ∈ A,uM p) (hB:∀ p ∈ B,uM p) (hga:ga<w.heap.size) (hla:∀ i (h:i<A.length),SpAt w ga (oa+i*6) (spR A[i])) (hlb:SpansR w vb B)
 (hlen:A.length≤1000000000000) (hlenb:B.length≤1000000000000) (hbig:(bR A B).length≤1000000000000):
 Calls Tryz.prog 297 #[.slice (some ⟨ga,oa,none⟩) A.length ca,vb] w fun e w'=>∃ v,e= .returned v∧OwnS w' w.heap.size v ((bR A B).map spR)∧Below w.heap.size w w':=by
 have HA:=aB hA;have HB:=aB hB;have HLB:=aB hlb;have HBIG:=aB hbig;have HLENB:Hid (∀ B2:Rg,∀ lo,cT lo B2=cT lo B→True):=fun _ _ _=>trivial
 have HLA:Hid (∀ w1,Below w.heap.size w w1→∀ i (h:i<A.length),SpAt w1 ga (oa+i*6) (spR A[i])):=fun w1 hb i hi=>(hla i hi).below hb hga
 clear hA hB hla hlb hbig HLENB
 go_enter Tryz.func297,Tryz.ntmps297
 go_wp2
 go_step3
 go_wp2
 go_step3
 go_wp2_with fail
 go_loopw [1,5,14] (fun b out i wr=>∃ (k:Nat) (B1 o1:Rg),k≤A.length∧i= .int .i64 k∧SpansR w b B1∧(∀ p ∈ B1,uM p)∧B1.length≤B.length∧OwnS wr w.heap.size out (o1.map spR)∧Below w.heap.size w wr∧o1++bR (A.drop k) B1=bR A B) (fun _ _ i _=>A.length - (intOf i).toNat)
 case atStart=>exact ⟨0,B,[],Nat.zero_le _,rfl,HLB.out,HB.out,Nat.le_refl _,OwnS.nil _ _,Below.refl _ _,rfl⟩
 case round=>
  obtain ⟨k,B1,o1,hk,rfl,hb1,hb1o,hb1l,hown,hb,heq⟩:=hrel;have HOWN:=aB hown;have HBW:=aB hb;have HEQ:=aB heq;have HB1:=aB hb1;have HB1O:=aB hb1o;have HB1L:=aB hb1l;clear hb1 hb1o heq hb1l
  by_cases hlt:k<A.length
  · have hs:=HLA.out wr hb k hlt
    have HS:Hid (A.drop k=A[k]::A.drop (k+1)):=List.drop_eq_getElem_cons hlt;have HSO:Hid (uM A[k]):=HA.out _ (List.getElem_mem hlt);generalize A[k]=s at*;obtain ⟨lo,hi⟩:=s;obtain ⟨c0,c1,c2,c3,c4,c5⟩:=hs;simp only [spR] at c0 c1 c2 c3 c4 c5;clear hb hown
    go_wp2_with fail
    obtain ⟨wo,rfl⟩:∃ wo:World,wo=wr:=⟨_,rfl⟩;obtain ⟨uo,rfl⟩:∃ uo:Value,uo=u5:=⟨_,rfl⟩;have HKa:Hid (KeepP fun w1=>Below w.heap.size w w1∧Bx6F w1 wo.heap.size (atA lo) (atB lo) (atC lo) (atA hi) (atB hi) (atC hi)∧OwnS w1 w.heap.size uo (o1.map spR)):=(aG w).and ((uN _ _ _ _ _ _ _).and (pK _ _ _))
    have HO0:Hid (Below w.heap.size w (wo.alloc (.cells #[.int .i64 (atA lo),.int .i64 (atB lo),.int .i64 (atC lo),.int .i64 (atA hi),.int .i64 (atB hi),.int .i64 (atC hi)] 210))∧Bx6F (wo.alloc (.cells #[.int .i64 (atA lo),.int .i64 (atB lo),.int .i64 (atC lo),.int .i64 (atA hi),.int .i64 (atB hi),.int .i64 (atC hi)] 210)) wo.heap.size (atA lo) (atB lo) (atC lo) (atA hi) (atB hi) (atC hi)∧OwnS (wo.alloc (.cells #[.int .i64 (atA lo),.int .i64 (atB lo),.int .i64 (atC lo),.int .i64 (atA hi),.int .i64 (atB hi),.int .i64 (atC hi)] 210)) w.heap.size uo (o1.map spR)):=⟨aA HBW.out (aC _ _),Bx6F.new rfl _ _ _ _ _ _,HOWN.out.below (aC _ _)⟩;have HNE:Hid (uo.ownBlock≠some wo.heap.size):=fun e=>by have:=(HOWN.out.lt e).1;omega
    have HNB:Hid (w.heap.size≤wo.heap.size):=HBW.out.size
    have HEQ2:Hid (o1++(iQ lo hi (cT lo B1)++bR (A.drop (k+1)) (cT lo B1))=bR A B):=by
     unfold Hid;rw [←HEQ.out,HS.out];rfl
    clear HOWN HBW c0 c1 c2 c3 c4 c5 HEQ HS
    go_loopw [1] (fun b wr=>∃ B2:Rg,SpansR w b B2∧(∀ p ∈ B2,uM p)∧B2.length≤B.length∧cT lo B2=cT lo B1∧(Below w.heap.size w wr∧Bx6F wr wo.heap.size (atA lo) (atB lo) (atC lo) (atA hi) (atB hi) (atC hi)∧OwnS wr w.heap.size uo (o1.map spR))) (fun b _=>EC b)
    case atStart=>exact ⟨B1,HB1.out,HB1O.out,HB1L.out,rfl,HO0.out⟩
    case round=>
     clear HO0 HB1 HB1O HB1L;obtain ⟨B2,hb2,hb2o,hb2l,hdr,hk2⟩:=hrel;have HO:=aB hk2;have HB2:=aB hb2;have HB2O:=aB hb2o;have HB2L:=aB hb2l;have HDR:=aB hdr;clear hk2 hb2 hb2o hdr hb2l;cases B2 with
     |nil=>
      have HK:=HKa;obtain ⟨ad,cap,hv,hcap,_⟩:=HB2.out;subst hv
      have HEQ3:Hid ((o1++[(lo,hi)])++bR (A.drop (k+1)) []=bR A B):=by
       unfold Hid;rw [←HEQ2.out,←HDR.out];simp [cT,iQ]
      have HL1:Hid (o1.length+1≤1000000000000):=by
       have h1:=congrArg List.length HEQ3.out;have h2:=HBIG.out;rw [List.length_append,List.length_append,List.length_singleton] at h1;unfold Hid;omega
      go_wp2_with fail
      refine cE HK (by kernel_rfl) (by kernel_rfl) (by first|exact HO.out|exact HK.out.drew HO.out) ?_;intro C HIN HOUT;clear HO
      repeat
       (with_reducible refine wpQuiet_step (fun K hK=> ?_)
        go_simp
        first
         |(refine hK _ ?_;clear hK K)
         |(apply Exists.intro;refine ⟨fun w1 hC=> ?_,hK _ ?_⟩;(focus ((first|(exact rfl)|(obtain ⟨hb0,⟨⟨k0,k1,k2,k3,k4,k5,k6⟩,f0,f1,f2⟩,ho⟩:=HOUT.out w1 hC;clear hC;go_simp;first|done|exact rfl));done));clear hK K))
      refine wpQuiet_nil ?_;intro wn hC;have HO:=aB (HOUT.out _ hC);clear hC HIN HOUT C;obtain ⟨hb0,⟨⟨k0,k1,k2,k3,k4,k5,k6⟩,f0,f1,f2⟩,ho⟩:=HO.out
      go_wp2_with fail
      go_loop [5,35] (fun o i=>o=uo∧i= .int .i64 0) (fun _ _=>0)
      case atStart=>exact ⟨rfl,rfl⟩
      case round=>
       obtain ⟨h5,h35⟩:=hrel;subst u5;subst u35
       go_wp2_with (at_builtin;refine uO (uo:=uo) (o1:=o1) (N:=wo.heap.size) rfl (.tmp 78) (.tmp 80) rfl rfl (lo,hi) HO.out rfl rfl HNE.out HL1.out ?_;intro v1 w1 ok1 hne1 _;have HO1:=aB ok1;clear ok1 HO)
       exact ⟨⟨k+1,[],o1++[(lo,hi)],by omega,by go_num,HB2.out,HB2O.out,by simp,HO1.out.2.2,HO1.out.1,HEQ3.out⟩,by simp [intOf];omega⟩
     |cons p B3=>
      obtain ⟨ad,cap,hv,hcap,hq⟩:=HB2.out
      rcases hq with hq|⟨gb,ob,hq,hgb,hsb⟩
      · cases hq
      subst hq;subst hv;obtain ⟨g,h⟩:=p;have HPO:=aB (HB2O.out _ List.mem_cons_self);have HSB:Hid (∀ w1,Below w.heap.size w w1→∀ i (hi:i<((g,h)::B3).length),SpAt w1 gb (ob+i*6) (spR (((g,h)::B3)[i]))):=fun w1 hb i hi=>(hsb i hi).below hb hgb
      have HGB:=aB hgb;have hcap1:B3.length+1≤cap:=hcap;obtain ⟨q,hq1,hq2,hc⟩:=lH HPO.out.2.1 HSO.out.1;have HC:=aB hc;have HO':Hid ((Below w.heap.size w wr∧Bx6F wr wo.heap.size (atA lo) (atB lo) (atC lo) (atA hi) (atB hi) (atC hi)∧OwnS wr w.heap.size uo (o1.map spR))∧Hi3 wr gb ob h):=⟨HO.out,Hi3.of (HSB.out wr HO.out.1 0 (by simp)) (Nat.lt_of_lt_of_le hgb HO.out.1.size)⟩;have HK:Hid (KeepP fun w1=>(Below w.heap.size w w1∧Bx6F w1 wo.heap.size (atA lo) (atB lo) (atC lo) (atA hi) (atB hi) (atC hi)∧OwnS w1 w.heap.size uo (o1.map spR))∧Hi3 w1 gb ob h):=HKa.out.and (Ea _ _ _);clear HO hc hgb hsb hcap;have HO:=HO';clear HO';have hlz:(0:Int)<(((g,h)::B3:Rg).length:Int):=by simp
      by_cases hh:h<lo
      · have hq3:q<0:=hq1.2 hh
        have HDR2:Hid (cT lo B3=cT lo B1):=by unfold Hid;rw [←HDR.out,VL hh]
        go_wp2_with fail
        refine cE HK (by kernel_rfl) (by kernel_rfl) (by first|exact HO.out|exact HK.out.drew HO.out) ?_;intro C HIN HOUT;clear HO
        repeat
         (with_reducible refine wpQuiet_step (fun K hK=> ?_)
          go_simp
          first
           |(refine hK _ ?_;clear hK K)
           |(apply Exists.intro;refine ⟨fun w1 hC=> ?_,hK _ ?_⟩;(focus ((first|(go_at_call 288;with_reducible exact eJ HIN HOUT HK HC.out w1 hC)|(exact rfl)|(obtain ⟨⟨hb0,⟨⟨k0,k1,k2,k3,k4,k5,k6⟩,f0,f1,f2⟩,ho⟩,x0,x1,x2,x3⟩:=HOUT.out w1 hC;clear hC;go_simp;first|done|exact rfl));done));clear hK K))
        refine wpQuiet_nil ?_;intro wn hC;have HO:=aB (HOUT.out _ hC);clear hC HIN HOUT C;obtain ⟨⟨hb0,⟨⟨k0,k1,k2,k3,k4,k5,k6⟩,f0,f1,f2⟩,ho⟩,x0,x1,x2,x3⟩:=HO.out
        go_wp2
        exact ⟨⟨B3,HB2.out.tail,fun p hp=>HB2O.out p (List.mem_cons_of_mem _ hp),by have:=HB2L.out;simp only [List.length_cons] at this;omega,HDR2.out,HO.out.1⟩,by simp [EC]⟩
      · have hq3:¬ q<0:=fun hx=>hh (hq1.1 hx)
        have HEQ3:Hid (o1++(iQ lo hi (((g,h)::B3).drop 0)++bR (A.drop (k+1)) ((g,h)::B3))=bR A B):=by
         unfold Hid;rw [←HEQ2.out,←HDR.out,Fo (by omega)];rfl
        have HLB3:Hid (B3.length+1≤1000000000000):=by have:=HB2L.out;simp only [List.length_cons] at this;unfold Hid;omega
        go_wp2_with fail
        refine cE HK (by kernel_rfl) (by kernel_rfl) (by first|exact HO.out|exact HK.out.drew HO.out) ?_;intro C HIN HOUT;clear HO
        repeat
         (with_reducible refine wpQuiet_step (fun K hK=> ?_)
          go_simp
          first
           |(refine hK _ ?_;clear hK K)
           |(apply Exists.intro;refine ⟨fun w1 hC=> ?_,hK _ ?_⟩;(focus ((first|(go_at_call 288;with_reducible exact eJ HIN HOUT HK HC.out w1 hC)|(exact rfl)|(obtain ⟨⟨hb0,⟨⟨k0,k1,k2,k3,k4,k5,k6⟩,f0,f1,f2⟩,ho⟩,x0,x1,x2,x3⟩:=HOUT.out w1 hC;clear hC;go_simp;first|done|exact rfl));done));clear hK K))
        refine wpQuiet_nil ?_;intro wn hC;have HO:=aB (HOUT.out _ hC);clear hC HIN HOUT C;obtain ⟨⟨hb0,⟨⟨k0,k1,k2,k3,k4,k5,k6⟩,f0,f1,f2⟩,ho⟩,x0,x1,x2,x3⟩:=HO.out
        go_wp2_with fail
        clear hq1 hq2 hq3 k0 k1 k2 k3 k4 k5 k6 f0 f1 f2 ho x0 x1 x2 x3 hb0 HC HK
        go_loopw [5,35] (fun out i wr=>∃ (j:Nat) (l2:Int) (o2:Rg),j≤B3.length+1∧i= .int .i64 j∧(okR l2∧l2≤hi)∧(Below w.heap.size w wr∧Bx6F wr wo.heap.size (atA l2) (atB l2) (atC l2) (atA hi) (atB hi) (atC hi)∧OwnS wr w.heap.size out (o2.map spR))∧out.ownBlock≠some wo.heap.size∧o2++(iQ l2 hi (((g,h)::B3).drop j)++bR (A.drop (k+1)) ((g,h)::B3))=bR A B) (fun _ i _=>B3.length+1 - (intOf i).toNat)
        case atStart=>exact ⟨0,lo,o1,by omega,rfl,⟨HSO.out.1,HSO.out.2.2⟩,HO.out.1,HNE.out,HEQ3.out⟩
        case round=>
         clear HO HNE HEQ3 HEQ2 HKa HDR;obtain ⟨j,l2,o2,hj,rfl,hl2,hk3,hne3,heq3⟩:=hrel;obtain ⟨wi,rfl⟩:∃ wi:World,wi=wr:=⟨_,rfl⟩;obtain ⟨ui,rfl⟩:∃ ui:Value,ui=u5:=⟨_,rfl⟩;have HL2:=aB hl2;have HO:=aB hk3;have HNE:=aB hne3;have HEQ:=aB heq3
         have HLL:Hid (∀ o3:Rg,(∃ X,o3++X=bR A B)→o3.length≤1000000000000):=by
          rintro o3 ⟨X,hX⟩;have h1:=congrArg List.length hX;have h2:=HBIG.out;rw [List.length_append] at h1;omega
         clear hl2 hk3 hne3 heq3
         by_cases hjl:j<B3.length+1
         · have hs:=HSB.out wi HO.out.1 j (by simpa using hjl)
           have HE:Hid (((g,h)::B3).drop j=((g,h)::B3)[j]'(by simpa using hjl)::((g,h)::B3).drop (j+1)):=List.drop_eq_getElem_cons (by simpa using hjl);have HGO:=aB (HB2O.out _ (List.getElem_mem (l:=(g,h)::B3) (n:=j) (by simpa using hjl)));generalize ((g,h)::B3)[j]'(by simpa using hjl)=e at*;obtain ⟨g2,h2⟩:=e;obtain ⟨c0,c1,c2,c3,c4,c5⟩:=hs;simp only [spR] at c0 c1 c2 c3 c4 c5;rw [HE.out] at HEQ
           have HR:Hid ((Below w.heap.size w (wi.alloc (.cells #[.int .i64 (atA g2),.int .i64 (atB g2),.int .i64 (atC g2),.int .i64 (atA h2),.int .i64 (atB h2),.int .i64 (atC h2)] 210))∧Bx6F (wi.alloc (.cells #[.int .i64 (atA g2),.int .i64 (atB g2),.int .i64 (atC g2),.int .i64 (atA h2),.int .i64 (atB h2),.int .i64 (atC h2)] 210)) wo.heap.size (atA l2) (atB l2) (atC l2) (atA hi) (atB hi) (atC hi)∧OwnS (wi.alloc (.cells #[.int .i64 (atA g2),.int .i64 (atB g2),.int .i64 (atC g2),.int .i64 (atA h2),.int .i64 (atB h2),.int .i64 (atC h2)] 210)) w.heap.size ui (o2.map spR))∧Bx6 (wi.alloc (.cells #[.int .i64 (atA g2),.int .i64 (atB g2),.int .i64 (atC g2),.int .i64 (atA h2),.int .i64 (atB h2),.int .i64 (atC h2)] 210)) wi.heap.size (atA g2) (atB g2) (atC g2) (atA h2) (atB h2) (atC h2)):=⟨((aG w).and ((uN _ _ _ _ _ _ _).and (pK _ _ _))) _ _ HO.out (aC _ _),Bx6.new rfl _ _ _ _ _ _⟩
           have HK3:Hid (KeepP fun w1=>(Below w.heap.size w w1∧Bx6F w1 wo.heap.size (atA l2) (atB l2) (atC l2) (atA hi) (atB hi) (atC hi)∧OwnS w1 w.heap.size ui (o2.map spR))∧Bx6 w1 wi.heap.size (atA g2) (atB g2) (atC g2) (atA h2) (atB h2) (atC h2)):=((aG w).and ((uN _ _ _ _ _ _ _).and (pK _ _ _))).and (yX _ _ _ _ _ _ _);have HNG:Hid (ui.ownBlock≠some wi.heap.size):=fun e=>by have:=(HO.out.2.2.lt e).1;omega
           obtain ⟨_,⟨⟨k0,k1,k2,k3,k4,k5,k6⟩,f0,f1,f2⟩,_⟩:=HR.out.1;obtain ⟨q1,hq1,hq1',hc1⟩:=lH HGO.out.1 HSO.out.2.1;obtain ⟨q2,hq2,hq2',hc2⟩:=lH HL2.out.1 HGO.out.1;obtain ⟨q3,hq3,hq3',hc3⟩:=lH HGO.out.2.1 HSO.out.2.1;have HC1:=aB hc1;have HC2:=aB hc2;have HC3:=aB hc3;have hlb3:=HLB3.out;have hjl2:(j:Int)<(((g,h)::B3:Rg).length:Int):=by simp;omega
           clear hc1 hc2 hc3 HO;have t1:True:=trivial;have t2:True:=trivial
           by_cases hb1:hi<g2
           · have hp1:0<q1:=hq1'.2 hb1
             have HEQ4:Hid ((o2++[(l2,hi)])++bR (A.drop (k+1)) ((g,h)::B3)=bR A B):=by
              unfold Hid;rw [←HEQ.out];simp [iQ,hb1]
             have HL1:Hid (o2.length+1≤1000000000000):=by have:=HLL.out _ ⟨_,HEQ4.out⟩;rw [List.length_append,List.length_singleton] at this;exact this
             go_wp2_with (first
              |(go_at_call 288;refine (iC HK3.out HC1.out _ HR.out).mono ?_;rintro e w1 ⟨rfl,ok⟩;clear HR;have HR:=aB ok;clear ok;obtain ⟨⟨hbw,⟨⟨k0,k1,k2,k3,k4,k5,k6⟩,f0,f1,f2⟩,ho⟩,m0,m1,m2,m3,m4,m5,m6⟩:=HR.out)
              |(at_builtin;refine uO (uo:=ui) (o1:=o2) (N:=wo.heap.size) rfl (.tmp 78) (.tmp 80) rfl rfl (l2,hi) HR.out.1 rfl rfl HNE.out HL1.out ?_;intro v1 w9 ok1 hne1 _;have HO1:=aB ok1;clear ok1 HR))
             exact ⟨⟨k+1,(g,h)::B3,o2++[(l2,hi)],by omega,by go_num,HB2.out,HB2O.out,HB2L.out,HO1.out.2.2,HO1.out.1,HEQ4.out⟩,by simp [intOf];omega⟩
           · have hp1:¬ 0<q1:=fun hx=>hb1 (hq1'.1 hx)
             by_cases hb2:l2<g2
             · have hp2:q2<0:=hq2.2 hb2
               have HPV:=aB (Ag (r:=g2) (by have:=HL2.out.1.1;omega) HGO.out.1.2)
               by_cases hb3:h2<hi
               · have hp3:q3<0:=hq3.2 hb3
                 have HNX:=aB (OR (r:=h2) HGO.out.2.1.1 (by have:=HSO.out.2.1.2;omega))
                 have HEQ4:Hid ((o2++[(l2,g2 - 1)])++(iQ (h2+1) hi (((g,h)::B3).drop (j+1))++bR (A.drop (k+1)) ((g,h)::B3))=bR A B):=by
                  unfold Hid;rw [←HEQ.out];simp [iQ,hb1,hb2,Int.not_le.2 hb3]
                 have HL1:Hid (o2.length+1≤1000000000000):=by have:=HLL.out _ ⟨_,HEQ4.out⟩;rw [List.length_append,List.length_singleton] at this;exact this
                 have HNO:Hid (okR (h2+1)∧h2+1≤hi):=by have h1:=HSO.out.2.1;have h2':=HGO.out.2.1;unfold okR at*;unfold Hid;omega
                 go_wp2_with (first
                  |(have _t:=t1;go_at_call 288;refine (iC HK3.out HC1.out _ HR.out).mono ?_;rintro e w1 ⟨rfl,ok⟩;clear HR t1;have HR:=aB ok;clear ok;obtain ⟨⟨hbw,⟨⟨k0,k1,k2,k3,k4,k5,k6⟩,f0,f1,f2⟩,ho⟩,m0,m1,m2,m3,m4,m5,m6⟩:=HR.out)
                  |(have _t:=t2;go_at_call 288;refine (iC HK3.out HC2.out _ HR.out).mono ?_;rintro e w2 ⟨rfl,ok⟩;clear HR t2;have HR:=aB ok;clear ok;obtain ⟨⟨hbw,⟨⟨k0,k1,k2,k3,k4,k5,k6⟩,f0,f1,f2⟩,ho⟩,m0,m1,m2,m3,m4,m5,m6⟩:=HR.out)
                  |(go_at_call 306;refine (iC HK3.out HPV.out _ HR.out).mono ?_;rintro e w3 ⟨rfl,ok⟩;clear HR;have HR:=aB ok;clear ok;obtain ⟨⟨hbw,⟨⟨k0,k1,k2,k3,k4,k5,k6⟩,f0,f1,f2⟩,ho⟩,m0,m1,m2,m3,m4,m5,m6⟩:=HR.out)
                  |(at_builtin;refine uO (uo:=ui) (o1:=o2) (N:=wo.heap.size) rfl (.tmp 57) (.tmp 62) rfl rfl (l2,g2 - 1) (HK3.out _ _ HR.out (aC _ _)).1 (Dg _ _) rfl HNE.out HL1.out ?_;intro v1 w4 ok1 hne1 hgr1;have HR4:Hid ((Below w.heap.size w w4∧Bx6F w4 wo.heap.size (atA l2) (atB l2) (atC l2) (atA hi) (atB hi) (atC hi)∧OwnS w4 w.heap.size v1 ((o2++[(l2,g2 - 1)]).map spR))∧Bx6 w4 wi.heap.size (atA g2) (atB g2) (atC g2) (atA h2) (atB h2) (atC h2)):=⟨ok1,hgr1 _ _ _ _ _ _ _ HNG.out (HK3.out _ _ HR.out (aC _ _)).2⟩;have HK4:Hid (KeepP fun w1=>(Below w.heap.size w w1∧Bx6F w1 wo.heap.size (atA l2) (atB l2) (atC l2) (atA hi) (atB hi) (atC hi)∧OwnS w1 w.heap.size v1 ((o2++[(l2,g2 - 1)]).map spR))∧Bx6 w1 wi.heap.size (atA g2) (atB g2) (atC g2) (atA h2) (atB h2) (atC h2)):=((aG w).and ((uN _ _ _ _ _ _ _).and (pK _ _ _))).and (yX _ _ _ _ _ _ _);clear ok1 hgr1 HR;have HR:=HR4;clear HR4;obtain ⟨⟨hbw,⟨⟨k0,k1,k2,k3,k4,k5,k6⟩,f0,f1,f2⟩,ho⟩,m0,m1,m2,m3,m4,m5,m6⟩:=HR.out)
                  |(go_at_call 288;refine (iC HK4.out HC3.out _ HR.out).mono ?_;rintro e w5 ⟨rfl,ok⟩;clear HR;have HR:=aB ok;clear ok;obtain ⟨⟨hbw,⟨⟨k0,k1,k2,k3,k4,k5,k6⟩,f0,f1,f2⟩,ho⟩,m0,m1,m2,m3,m4,m5,m6⟩:=HR.out)
                  |(go_at_call 289;refine (iC HK4.out HNX.out _ HR.out).mono ?_;rintro e w6 ⟨rfl,ok⟩;clear HR;have HR:=aB ok;clear ok;obtain ⟨⟨hbw,⟨⟨k0,k1,k2,k3,k4,k5,k6⟩,f0,f1,f2⟩,ho⟩,m0,m1,m2,m3,m4,m5,m6⟩:=HR.out))
                 exact ⟨⟨j+1,h2+1,o2++[(l2,g2 - 1)],by omega,by go_num,HNO.out,⟨((HR.out.1.1.setCell HNB.out _).setCell HNB.out _).setCell HNB.out _,HR.out.1.2.1.put _ _ _,((HR.out.1.2.2.set hne1 _ _).set hne1 _ _).set hne1 _ _⟩,hne1,HEQ4.out⟩,by simp [intOf];omega⟩
               · have hp3:¬ q3<0:=fun hx=>hb3 (hq3.1 hx)
                 have HEQ4:Hid ((o2++[(l2,g2 - 1)])++bR (A.drop (k+1)) ((g,h)::B3)=bR A B):=by
                  unfold Hid;rw [←HEQ.out];simp [iQ,hb1,hb2,Int.not_lt.1 hb3]
                 have HL1:Hid (o2.length+1≤1000000000000):=by have:=HLL.out _ ⟨_,HEQ4.out⟩;rw [List.length_append,List.length_singleton] at this;exact this
                 go_wp2_with (first
                  |(have _t:=t1;go_at_call 288;refine (iC HK3.out HC1.out _ HR.out).mono ?_;rintro e w1 ⟨rfl,ok⟩;clear HR t1;have HR:=aB ok;clear ok;obtain ⟨⟨hbw,⟨⟨k0,k1,k2,k3,k4,k5,k6⟩,f0,f1,f2⟩,ho⟩,m0,m1,m2,m3,m4,m5,m6⟩:=HR.out)
                  |(have _t:=t2;go_at_call 288;refine (iC HK3.out HC2.out _ HR.out).mono ?_;rintro e w2 ⟨rfl,ok⟩;clear HR t2;have HR:=aB ok;clear ok;obtain ⟨⟨hbw,⟨⟨k0,k1,k2,k3,k4,k5,k6⟩,f0,f1,f2⟩,ho⟩,m0,m1,m2,m3,m4,m5,m6⟩:=HR.out)
                  |(go_at_call 306;refine (iC HK3.out HPV.out _ HR.out).mono ?_;rintro e w3 ⟨rfl,ok⟩;clear HR;have HR:=aB ok;clear ok;obtain ⟨⟨hbw,⟨⟨k0,k1,k2,k3,k4,k5,k6⟩,f0,f1,f2⟩,ho⟩,m0,m1,m2,m3,m4,m5,m6⟩:=HR.out)
                  |(at_builtin;refine uO (uo:=ui) (o1:=o2) (N:=wo.heap.size) rfl (.tmp 57) (.tmp 62) rfl rfl (l2,g2 - 1) (HK3.out _ _ HR.out (aC _ _)).1 (Dg _ _) rfl HNE.out HL1.out ?_;intro v1 w4 ok1 hne1 hgr1;have HR4:Hid ((Below w.heap.size w w4∧Bx6F w4 wo.heap.size (atA l2) (atB l2) (atC l2) (atA hi) (atB hi) (atC hi)∧OwnS w4 w.heap.size v1 ((o2++[(l2,g2 - 1)]).map spR))∧Bx6 w4 wi.heap.size (atA g2) (atB g2) (atC g2) (atA h2) (atB h2) (atC h2)):=⟨ok1,hgr1 _ _ _ _ _ _ _ HNG.out (HK3.out _ _ HR.out (aC _ _)).2⟩;have HK4:Hid (KeepP fun w1=>(Below w.heap.size w w1∧Bx6F w1 wo.heap.size (atA l2) (atB l2) (atC l2) (atA hi) (atB hi) (atC hi)∧OwnS w1 w.heap.size v1 ((o2++[(l2,g2 - 1)]).map spR))∧Bx6 w1 wi.heap.size (atA g2) (atB g2) (atC g2) (atA h2) (atB h2) (atC h2)):=((aG w).and ((uN _ _ _ _ _ _ _).and (pK _ _ _))).and (yX _ _ _ _ _ _ _);clear ok1 hgr1 HR;have HR:=HR4;clear HR4;obtain ⟨⟨hbw,⟨⟨k0,k1,k2,k3,k4,k5,k6⟩,f0,f1,f2⟩,ho⟩,m0,m1,m2,m3,m4,m5,m6⟩:=HR.out)
                  |(go_at_call 288;refine (iC HK4.out HC3.out _ HR.out).mono ?_;rintro e w5 ⟨rfl,ok⟩;clear HR;have HR:=aB ok;clear ok;obtain ⟨⟨hbw,⟨⟨k0,k1,k2,k3,k4,k5,k6⟩,f0,f1,f2⟩,ho⟩,m0,m1,m2,m3,m4,m5,m6⟩:=HR.out))
                 exact ⟨⟨k+1,(g,h)::B3,o2++[(l2,g2 - 1)],by omega,by go_num,HB2.out,HB2O.out,HB2L.out,HR.out.1.2.2,HR.out.1.1,HEQ4.out⟩,by simp [intOf];omega⟩
             · have hp2:¬ q2<0:=fun hx=>hb2 (hq2.1 hx)
               by_cases hb3:h2<hi
               · have hp3:q3<0:=hq3.2 hb3
                 have HNX:=aB (OR (r:=h2) HGO.out.2.1.1 (by have:=HSO.out.2.1.2;omega))
                 have HEQ4:Hid (o2++(iQ (h2+1) hi (((g,h)::B3).drop (j+1))++bR (A.drop (k+1)) ((g,h)::B3))=bR A B):=by
                  unfold Hid;rw [←HEQ.out];simp [iQ,hb1,hb2,Int.not_le.2 hb3]
                 have HNO:Hid (okR (h2+1)∧h2+1≤hi):=by have h1:=HSO.out.2.1;have h2':=HGO.out.2.1;unfold okR at*;unfold Hid;omega
                 go_wp2_with (first
                  |(have _t:=t1;go_at_call 288;refine (iC HK3.out HC1.out _ HR.out).mono ?_;rintro e w1 ⟨rfl,ok⟩;clear HR t1;have HR:=aB ok;clear ok;obtain ⟨⟨hbw,⟨⟨k0,k1,k2,k3,k4,k5,k6⟩,f0,f1,f2⟩,ho⟩,m0,m1,m2,m3,m4,m5,m6⟩:=HR.out)
                  |(have _t:=t2;go_at_call 288;refine (iC HK3.out HC2.out _ HR.out).mono ?_;rintro e w2 ⟨rfl,ok⟩;clear HR t2;have HR:=aB ok;clear ok;obtain ⟨⟨hbw,⟨⟨k0,k1,k2,k3,k4,k5,k6⟩,f0,f1,f2⟩,ho⟩,m0,m1,m2,m3,m4,m5,m6⟩:=HR.out)
                  |(go_at_call 288;refine (iC HK3.out HC3.out _ HR.out).mono ?_;rintro e w5 ⟨rfl,ok⟩;clear HR;have HR:=aB ok;clear ok;obtain ⟨⟨hbw,⟨⟨k0,k1,k2,k3,k4,k5,k6⟩,f0,f1,f2⟩,ho⟩,m0,m1,m2,m3,m4,m5,m6⟩:=HR.out)
                  |(go_at_call 289;refine (iC HK3.out HNX.out _ HR.out).mono ?_;rintro e w6 ⟨rfl,ok⟩;clear HR;have HR:=aB ok;clear ok;obtain ⟨⟨hbw,⟨⟨k0,k1,k2,k3,k4,k5,k6⟩,f0,f1,f2⟩,ho⟩,m0,m1,m2,m3,m4,m5,m6⟩:=HR.out))
                 exact ⟨⟨j+1,h2+1,o2,by omega,by go_num,HNO.out,⟨((HR.out.1.1.setCell HNB.out _).setCell HNB.out _).setCell HNB.out _,HR.out.1.2.1.put _ _ _,((HR.out.1.2.2.set HNE.out _ _).set HNE.out _ _).set HNE.out _ _⟩,HNE.out,HEQ4.out⟩,by simp [intOf];omega⟩
               · have hp3:¬ q3<0:=fun hx=>hb3 (hq3.1 hx)
                 have HEQ4:Hid (o2++bR (A.drop (k+1)) ((g,h)::B3)=bR A B):=by
                  unfold Hid;rw [←HEQ.out];simp [iQ,hb1,hb2,Int.not_lt.1 hb3]
                 go_wp2_with (first
                  |(have _t:=t1;go_at_call 288;refine (iC HK3.out HC1.out _ HR.out).mono ?_;rintro e w1 ⟨rfl,ok⟩;clear HR t1;have HR:=aB ok;clear ok;obtain ⟨⟨hbw,⟨⟨k0,k1,k2,k3,k4,k5,k6⟩,f0,f1,f2⟩,ho⟩,m0,m1,m2,m3,m4,m5,m6⟩:=HR.out)
                  |(have _t:=t2;go_at_call 288;refine (iC HK3.out HC2.out _ HR.out).mono ?_;rintro e w2 ⟨rfl,ok⟩;clear HR t2;have HR:=aB ok;clear ok;obtain ⟨⟨hbw,⟨⟨k0,k1,k2,k3,k4,k5,k6⟩,f0,f1,f2⟩,ho⟩,m0,m1,m2,m3,m4,m5,m6⟩:=HR.out)
                  |(go_at_call 288;refine (iC HK3.out HC3.out _ HR.out).mono ?_;rintro e w5 ⟨rfl,ok⟩;clear HR;have HR:=aB ok;clear ok;obtain ⟨⟨hbw,⟨⟨k0,k1,k2,k3,k4,k5,k6⟩,f0,f1,f2⟩,ho⟩,m0,m1,m2,m3,m4,m5,m6⟩:=HR.out))
                 exact ⟨⟨k+1,(g,h)::B3,o2,by omega,by go_num,HB2.out,HB2O.out,HB2L.out,HR.out.1.2.2,HR.out.1.1,HEQ4.out⟩,by simp [intOf];omega⟩
         · have hje:j=B3.length+1:=by omega
           subst hje
           have HEQ4:Hid ((o2++[(l2,hi)])++bR (A.drop (k+1)) ((g,h)::B3)=bR A B):=by
            unfold Hid;rw [←HEQ.out,show ((g,h)::B3).drop (B3.length+1)=[] from List.drop_of_length_le (Nat.le_refl _)];simp [iQ]
           have HL1:Hid (o2.length+1≤1000000000000):=by have:=HLL.out _ ⟨_,HEQ4.out⟩;rw [List.length_append,List.length_singleton] at this;exact this
           obtain ⟨_,⟨⟨k0,k1,k2,k3,k4,k5,k6⟩,f0,f1,f2⟩,_⟩:=HO.out
           go_wp2_with (at_builtin;refine uO (uo:=ui) (o1:=o2) (N:=wo.heap.size) rfl (.tmp 78) (.tmp 80) rfl rfl (l2,hi) HO.out rfl rfl HNE.out HL1.out ?_;intro v1 w9 ok1 hne1 _;have HO1:=aB ok1;clear ok1 HO)
           exact ⟨⟨k+1,(g,h)::B3,o2++[(l2,hi)],by omega,by go_num,HB2.out,HB2O.out,HB2L.out,HO1.out.2.2,HO1.out.1,HEQ4.out⟩,by simp [intOf];omega⟩
  · have hke:k=A.length:=by omega
    subst hke;have HEQ1:Hid (o1=bR A B):=by unfold Hid;rw [←HEQ.out,List.drop_length];simp [bR]
    have HO:=aB hown;have HBb:=aB hb;clear hown hb HEQ HOWN HBW
    go_wp2
    rw [Exit.noGoto_ret];go_ret;exact ⟨u5,rfl,by rw [←HEQ1.out];exact HO.out,HBb.out⟩
theorem RiseR.len {M:Int}:∀ {B:Rg} {k:Int},RiseR k M B→B=[]∨2*(B.length:Int)+k≤M+2
 |[],_,_=>Or.inl rfl
 |(g,h)::B,k,hr=>by
  obtain ⟨h1,h2,h3,h4⟩:=hr
  right
  rcases RiseR.len h4 with rfl|h5
  · simp;omega
  · simp only [List.length_cons];omega
theorem RangeR.len {B:Rg} (h:RangeR B):B.length≤500000001:=by
 rcases RiseR.len h with rfl|h1
 · simp
 · omega
theorem RangeR.ok {B:Rg} (h:RangeR B):∀ p ∈ B,uM p:=fun p hp=>by
 have:=RiseR.mem h hp
 unfold uM okR;omega
theorem uP:∀ (L:List Sp) (i:Nat) (h:i<L.length),(dS L)[i*6]? =some (.int .i64 L[i].a)∧(dS L)[i*6+1]? =some (.int .i64 L[i].b)∧(dS L)[i*6+1+1]? =some (.int .i64 L[i].c)∧
 (dS L)[i*6+1+1+1]? =some (.int .i64 L[i].x)∧(dS L)[i*6+1+1+1+1]? =some (.int .i64 L[i].y)∧(dS L)[i*6+1+1+1+1+1]? =some (.int .i64 L[i].z)
 |[],i,h=>by simp at h
 |s::L,0,_=>by simp [dS]
 |s::L,i+1,h=>by
  have ih:=uP L i (by simpa using h);have e:(i+1)*6=i*6+6:=by omega
  have q:∀ j,(dS (s::L))[i*6+6+j]? =(dS L)[i*6+j]? :=fun j=>by
   have:i*6+6+j=(i*6+j)+6:=by omega
   rw [this];simp [dS]
  have q0:=q 0;have q1:=q 1;have q2:=q 2;have q3:=q 3;have q4:=q 4;have q5:=q 5;simp only [Nat.add_zero] at q0;rw [e];simp only [List.getElem_cons_succ];exact ⟨q0.trans ih.1,q1.trans ih.2.1,q2.trans ih.2.2.1,q3.trans ih.2.2.2.1,q4.trans ih.2.2.2.2.1,q5.trans ih.2.2.2.2.2⟩
theorem OwnS.base {w:World} {B C:Nat} {v:Value} {L:List Sp} (h:OwnS w B v L) (hc:C≤B):OwnS w C v L:=by
 refine ⟨h.1,?_⟩
 rcases h.2 with hn|⟨g,cap,cur,hv,hB,r⟩
 · exact Or.inl hn
 · exact Or.inr ⟨g,cap,cur,hv,Nat.le_trans hc hB,r⟩
theorem OwnS.sp {w:World} {B:Nat} {v:Value} {L:List Sp} (h:OwnS w B v L):∃ ad cap,v= .slice ad L.length cap∧L.length≤cap∧(L=[]∨∃ g o,ad=some ⟨g,o,none⟩∧g<w.heap.size∧∀ i (h:i<L.length),SpAt w g (o+i*6) L[i]):=by
 rcases h.2 with ⟨rfl,hn⟩|⟨g,cap,cur,rfl,hB,hgg,hc,hm,hs,hx⟩
 · have:L=[]:=List.eq_nil_of_length_eq_zero hn
   subst this;exact ⟨none,0,rfl,Nat.le_refl _,Or.inl rfl⟩
 · refine ⟨_,_,rfl,hc,Or.inr ⟨g,0,rfl,?_,fun i hi=> ?_⟩⟩
   · rw [Array.getElem?_eq_some_iff] at hgg;exact hgg.1
   · have q:∀ j v,(dS L)[j]? =some v→w.cell? ⟨g,0+j,none⟩=some v:=fun j v hj=>by
      rw [←hx,List.getElem?_take] at hj
      split at hj
      · rw [Nat.zero_add]
        simp [World.cell?,hgg]
        simpa using hj
      · cases hj
     obtain ⟨s0,s1,s2,s3,s4,s5⟩:=uP L i hi;exact ⟨q _ _ s0,q _ _ s1,q _ _ s2,q _ _ s3,q _ _ s4,q _ _ s5⟩
theorem OwnS.spans {w:World} {B:Nat} {v:Value} {L:Rg} (h:OwnS w B v (L.map spR)):SpansR w v L:=by
 obtain ⟨ad,cap,hv,hc,hl⟩:=h.sp;simp only [List.length_map] at hv hc hl;refine ⟨ad,cap,hv,hc,?_⟩
 rcases hl with hl|⟨g,o,ha,hg,hs⟩
 · left;simpa using hl
 · right
   refine ⟨g,o,ha,hg,fun i hi=> ?_⟩
   have:=hs i hi
   rw [List.getElem_map] at this;exact this
theorem VQ (ad:Option Addr) (cap:Nat) (vb:Value) (w:World):
 Calls Tryz.prog 297 #[.slice ad 0 cap,vb] w fun e w'=>e= .returned (.slice none 0 0)∧Below w.heap.size w w':=by
 go_enter Tryz.func297,Tryz.ntmps297
 go_wp2
 go_step3
 go_wp2
 go_step3
 go_wp2_with fail
 go_loop [1,5,14] (fun b out i=>b=vb∧out= .slice none 0 0∧i= .int .i64 0) (fun _ _ _=>0)
 case atStart=>exact ⟨rfl,rfl,rfl⟩
 case round=>
  obtain ⟨h1,h5,h14⟩:=hrel;subst u1;subst u5;subst u14
  go_wp2
  go_ret;exact ⟨rfl,Below.refl _ _⟩
theorem oD {A B:Rg} (hA:RangeR A) (hB:RangeR B) {va vb:Value} {w:World} (ha:SpansR w va A) (hb:SpansR w vb B):
 Calls Tryz.prog 297 #[va,vb] w fun e w'=>∃ v,e= .returned v∧OwnS w' w.heap.size v ((bR A B).map spR)∧Below w.heap.size w w':=by
 obtain ⟨ad,cap,rfl,hc,hl⟩:=ha
 rcases hl with rfl|⟨g,o,rfl,hg,hs⟩
 · refine (VQ ad cap vb w).mono ?_
   rintro e w' ⟨rfl,h⟩;exact ⟨_,rfl,OwnS.nil _ _,h⟩
 · have h1:=hA.len
   have h2:=hB.len;have h3:=VM (B:=B) hA;exact VP A B g o cap vb w hA.ok hB.ok hg hs hb (by omega) (by omega) (by omega)
theorem Ah {A B:Rg} (hA:RangeR A) (hB:RangeR B) {va vb:Value} {w:World} (ha:SpansR w va A) (hb:SpansR w vb B):
 Calls Tryz.prog 296 #[va,vb] w fun e w'=>∃ v,e= .returned v∧OwnS w' w.heap.size v ((fX A B).map spR)∧Below w.heap.size w w':=by
 have H1:Hid (Calls Tryz.prog 297 #[va,vb] w fun e w'=>∃ v,e= .returned v∧OwnS w' w.heap.size v ((bR A B).map spR)∧Below w.heap.size w w'):=oD hA hB ha hb;have H2:Hid (∀ v1 w1,OwnS w1 w.heap.size v1 ((bR A B).map spR)→Below w.heap.size w w1→Calls Tryz.prog 297 #[va,v1] w1 fun e w'=>∃ v,e= .returned v∧OwnS w' w1.heap.size v ((fX A B).map spR)∧Below w1.heap.size w1 w'):=fun v1 w1 ho hbl=>oD hA (hA.cut hB) (ha.below hbl) ho.spans
 have t1:True:=trivial;clear ha hb
 go_enter Tryz.func296,Tryz.ntmps296
 go_wp2_with (first
  |(have _t:=t1;go_at_call 297;refine H1.out.mono ?_;rintro e w1 ⟨v1,rfl,ok1⟩;clear t1;have HO1:=aB ok1;clear ok1)
  |(go_at_call 297;refine (H2.out _ _ HO1.out.1 HO1.out.2).mono ?_;rintro e w2 ⟨v2,rfl,ok2⟩;have HO2:=aB ok2;clear ok2))
 go_ret;exact ⟨v2,rfl,HO2.out.1.base HO1.out.2.size,aA HO1.out.2 HO2.out.2⟩
def FL (w:World):Prop:=(w.cell? ⟨1,0,none⟩=some (.int .i64 0)∧w.cell? ⟨1,1,none⟩=some (.int .i64 0)∧w.cell? ⟨1,2,none⟩=some (.int .i64 0))∧
 (w.cell? ⟨2,0,none⟩=some (.int .i64 999)∧w.cell? ⟨2,1,none⟩=some (.int .i64 999)∧w.cell? ⟨2,2,none⟩=some (.int .i64 999))∧1<w.heap.size∧2<w.heap.size
theorem FL.below {w w':World} (h:FL w) (hb:Below w.heap.size w w'):FL w':=by
 obtain ⟨⟨h0,h1,h2⟩,⟨h3,h4,h5⟩,h6,h7⟩:=h;have q:∀ i,w'.cell? ⟨1,i,none⟩=w.cell? ⟨1,i,none⟩:=fun i=>hb.cell (p:=⟨1,i,none⟩) h6
 have r:∀ i,w'.cell? ⟨2,i,none⟩=w.cell? ⟨2,i,none⟩:=fun i=>hb.cell (p:=⟨2,i,none⟩) h7
 exact ⟨⟨by rw [q];exact h0,by rw [q];exact h1,by rw [q];exact h2⟩,⟨by rw [r];exact h3,by rw [r];exact h4,by rw [r];exact h5⟩,Nat.lt_of_lt_of_le h6 hb.size,Nat.lt_of_lt_of_le h7 hb.size⟩
theorem BM:KeepP FL:=fun _ _ h hb=>h.below hb
theorem RM {w w1:World} (hb:Below w.heap.size w w1) (lo hi:Int) {M:Nat} (hM:w1.heap.size=M):SpansR (w1.alloc (.cells #[.int .i64 (atA lo),.int .i64 (atB lo),.int .i64 (atC lo),.int .i64 (atA hi),.int .i64 (atB hi),.int .i64 (atC hi)] 210)) (.slice (some ⟨M,0,none⟩) 1 1) [(lo,hi)]∧Below w.heap.size w (w1.alloc (.cells #[.int .i64 (atA lo),.int .i64 (atB lo),.int .i64 (atC lo),.int .i64 (atA hi),.int .i64 (atB hi),.int .i64 (atC hi)] 210)):=by
 subst hM;refine ⟨⟨_,_,rfl,Nat.le_refl _,Or.inr ⟨_,0,rfl,by simp,fun i hi=> ?_⟩⟩,aA hb (aC _ _)⟩
 have:i=0:=by simpa using hi
 subst this;refine ⟨?_,?_,?_,?_,?_,?_⟩<;>simp [spR]
theorem iR (lo hi:Int) (w:World):
 Calls Tryz.prog 303 #[.agg #[.int .i64 (atA lo),.int .i64 (atB lo),.int .i64 (atC lo)],.agg #[.int .i64 (atA hi),.int .i64 (atB hi),.int .i64 (atC hi)]] w fun e w'=>∃ v,e= .returned v∧SpansR w' v [(lo,hi)]∧Below w.heap.size w w':=by
 have H:=aB (fun w1 (hb:Below w.heap.size w w1) M hM=>RM hb lo hi (M:=M) hM);have HB:=aB (aS w)
 go_enter Tryz.func303,Tryz.ntmps303
 go_wp2
 go_ret;exact ⟨_,rfl,H.out _ (HB.out _ _) _ (by simp)⟩
theorem uQ {w:World} (h:FL w):
 Calls Tryz.prog 294 #[] w fun e w'=>∃ v,e= .returned v∧SpansR w' v cF∧Below w.heap.size w w':=by
 have HF:Hid (∀ w1,Calls Tryz.prog 303 #[.agg #[.int .i64 0,.int .i64 0,.int .i64 0],.agg #[.int .i64 999,.int .i64 999,.int .i64 999]] w1 fun e w'=>∃ v,e= .returned v∧SpansR w' v cF∧Below w1.heap.size w1 w'):=iR 0 999999999;obtain ⟨⟨h0,h1,h2⟩,⟨h3,h4,h5⟩,h6,h7⟩:=h
 go_enter Tryz.func294,Tryz.ntmps294
 go_wp2_with (go_at_call 303;refine (HF.out _).mono ?_;rintro e w1 ⟨v1,rfl,ok1⟩;have HO:=aB ok1;clear ok1)
 go_ret;exact ⟨v1,rfl,HO.out⟩
theorem Ai {A B:Rg} (hA:RangeR A) (hB:RangeR B) {va vb:Value} {w:World} (hf:FL w) (ha:SpansR w va A) (hb:SpansR w vb B):
 Calls Tryz.prog 279 #[va,vb] w fun e w'=>∃ v,e= .returned v∧OwnS w' w.heap.size v ((fY A B).map spR)∧Below w.heap.size w w':=by
 have HAll:Hid (∀ w1,Below w.heap.size w w1→Calls Tryz.prog 294 #[] w1 fun e w'=>∃ v,e= .returned v∧SpansR w' v cF∧Below w1.heap.size w1 w'):=fun w1 hbl=>uQ (hf.below hbl)
 have H1:Hid (∀ v1 w1,SpansR w1 v1 cF→Below w.heap.size w w1→Calls Tryz.prog 297 #[v1,va] w1 fun e w'=>∃ v,e= .returned v∧OwnS w' w1.heap.size v ((bR cF A).map spR)∧Below w1.heap.size w1 w'):=fun v1 w1 h1 hbl=>oD cD hA h1 (ha.below hbl)
 have H2:Hid (∀ v1 w1,SpansR w1 v1 (bR cF A)→Below w.heap.size w w1→Calls Tryz.prog 297 #[v1,vb] w1 fun e w'=>∃ v,e= .returned v∧OwnS w' w1.heap.size v ((bR (bR cF A) B).map spR)∧Below w1.heap.size w1 w'):=fun v1 w1 h1 hbl=>oD (cD.cut hA) hB h1 (hb.below hbl)
 have H3:Hid (∀ v0 v1 w1,SpansR w1 v0 cF→SpansR w1 v1 (bR (bR cF A) B)→Calls Tryz.prog 297 #[v0,v1] w1 fun e w'=>∃ v,e= .returned v∧OwnS w' w1.heap.size v ((fY A B).map spR)∧Below w1.heap.size w1 w'):=fun v0 v1 w1 h0 h1=>oD cD ((cD.cut hA).cut hB) h0 h1
 have HB0:Hid (Below w.heap.size w w):=Below.refl _ _;have t1:True:=trivial;have t2:True:=trivial;have t3:True:=trivial;clear ha hb hf
 go_enter Tryz.func279,Tryz.ntmps279
 go_wp2_with (first
  |(have _t:=t1;go_at_call 294;refine (HAll.out _ HB0.out).mono ?_;rintro e w1 ⟨v1,rfl,ok1⟩;clear t1;have HO1:=aB ok1;clear ok1)
  |(go_at_call 294;refine (HAll.out _ HO1.out.2).mono ?_;rintro e w2 ⟨v2,rfl,ok2⟩;have HO2:Hid (SpansR w2 v1 cF∧SpansR w2 v2 cF∧Below w.heap.size w w2):=⟨HO1.out.1.below ok2.2,ok2.1,aA HO1.out.2 ok2.2⟩;clear ok2 HO1)
  |(have _t:=t2;go_at_call 297;refine (H1.out _ _ HO2.out.2.1 HO2.out.2.2).mono ?_;rintro e w3 ⟨v3,rfl,ok3⟩;clear t2;have HO3:Hid (SpansR w3 v1 cF∧SpansR w3 v3 (bR cF A)∧Below w.heap.size w w3):=⟨HO2.out.1.below ok3.2,ok3.1.spans,aA HO2.out.2.2 ok3.2⟩;clear ok3 HO2)
  |(have _t:=t3;go_at_call 297;refine (H2.out _ _ HO3.out.2.1 HO3.out.2.2).mono ?_;rintro e w4 ⟨v4,rfl,ok4⟩;clear t3;have HO4:Hid (SpansR w4 v1 cF∧SpansR w4 v4 (bR (bR cF A) B)∧Below w.heap.size w w4):=⟨HO3.out.1.below ok4.2,ok4.1.spans,aA HO3.out.2.2 ok4.2⟩;clear ok4 HO3)
  |(go_at_call 297;refine (H3.out _ _ _ HO4.out.1 HO4.out.2.1).mono ?_;rintro e w5 ⟨v5,rfl,ok5⟩;have HO5:=aB ok5;clear ok5))
 go_ret;exact ⟨v5,rfl,HO5.out.1.base HO4.out.2.2.size,aA HO4.out.2.2 HO5.out.2⟩
def zB (n:Nat) (v:Value):Value:=if n≤64 then v else .slice none 0 0
def nW (n:Nat):Int:=if n≤64 then 0 else 26
theorem ED (ad:Option Addr) (n cap:Nat) (w:World):
 Calls Tryz.prog 280 #[.slice ad n cap] w fun e w'=>e= .returned (.tuple #[zB n (.slice ad n cap),.int .i64 (nW n)])∧Below w.heap.size w w':=by
 by_cases h:n≤64
 · have h1:¬ (64:Int)<(n:Int):=by omega
   have HV:Hid (zB n (.slice ad n cap)= .slice ad n cap∧nW n=0):=by unfold Hid zB nW;simp [h]
   go_enter Tryz.func280,Tryz.ntmps280
   go_wp2
   go_ret2;exact ⟨by rw [HV.out.1,HV.out.2];rfl,Below.refl _ _⟩
 · have h1:(64:Int)<(n:Int):=by omega
   have HV:Hid (zB n (.slice ad n cap)= .slice none 0 0∧nW n=26):=by unfold Hid zB nW;simp [h]
   go_enter Tryz.func280,Tryz.ntmps280
   go_wp2
   go_ret2;exact ⟨by rw [HV.out.1,HV.out.2];rfl,Below.refl _ _⟩
end Go.Proofs.YtmnhnofnlcbliaaGreatDoor
