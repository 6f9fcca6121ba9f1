/- Iy5, Iy6, Iy7: their declarations that are needed, laid in one text, remarks and blanks left out. -/
import Derived.Test.YtmnhnofnlcbliaaGreatDoorMg30
namespace Go.Proofs.YtmnhnofnlcbliaaGreatDoor
open Go.RowKit Go.Maps Go.WideMaps
set_option maxRecDepth 100000
structure GsQ (w:World) (N4 N6 N8:Nat) (P:Mn) (x1 x2 x3 x4:Value) (G:List Nd) (xg vt:Value) (xs:List Dv) (vm:Value) (mo:List Int) (M:List Fi) (W:World):Prop where
 st:W.heap[w.heap.size]? =some (.cells #[.slice none 0 0,.slice none 0 0,.slice none 0 0,.slice none 0 0,.slice none 0 0,.slice none 0 0,.bool false] 32)
 b4:W.heap[N4]? =some (.cells #[x1,x2,x3,x4] 24)
 b6:W.heap[N6]? =some (.cells #[xg] 27)
 b8:W.heap[N8]? =some (.cells #[vt] 30)
 mn:OwnM W w.heap.size P x1 x2 x3 x4
 gr:OwnGr W w.heap.size xg G
 tr:RowV W w.heap.size vt xs
 nd:OwnI W w.heap.size vm mo
 mp:∃ n D,W.ownsMap Tryz.prog 9 gO (w.heap.size+1) n D∧MapF D M
 below:Below w.heap.size w W
theorem GsQ.keep {w:World} {N4 N6 N8:Nat} {P:Mn} {x1 x2 x3 x4:Value} {G:List Nd} {xg vt:Value} {xs:List Dv} {vm:Value} {mo:List Int} {M:List Fi} {W W':World} (h:GsQ w N4 N6 N8 P x1 x2 x3 x4 G xg vt xs vm mo M W) (hb:Below W.heap.size W W'):GsQ w N4 N6 N8 P x1 x2 x3 x4 G xg vt xs vm mo M W':=by
 obtain ⟨n,D,h1,h2⟩:=h.mp;exact ⟨(hb.block _ (aY h.st)).trans h.st,(hb.block _ (aY h.b4)).trans h.b4,(hb.block _ (aY h.b6)).trans h.b6,(hb.block _ (aY h.b8)).trans h.b8,h.mn.below hb,h.gr.below hb,h.tr.below hb,dN h.nd hb,⟨n,D,bS h1 hb,h2⟩,aA h.below hb⟩
theorem Da {W:World} {B:Nat} {g k c:Nat} {xs:List Dv} (h:RowV W B (.slice (some ⟨g,0,none⟩) k c) xs) {N:Nat} {cs:Array Value} {t:TypeId} (hN:W.heap[N]? =some (.cells cs t)) (ht:t≠56):g≠N:=fun e=>by
 subst e
 rcases dM h.1 hN (fun _ q=>ht (Obj.cells.inj q).2.1) with q|q
 · simp [Value.ownBlock] at q
 · exact q rfl
theorem GsQ.store {w:World} {N4 N6 N8:Nat} {P:Mn} {x1 x2 x3 x4:Value} {G:List Nd} {xg:Value} {g k c:Nat} {xs:List Dv} {vm:Value} {mo:List Int} {M:List Fi} {W:World} (h:GsQ w N4 N6 N8 P x1 x2 x3 x4 G xg (.slice (some ⟨g,0,none⟩) k c) xs vm mo M W) (hk:k=xs.length) {i:Nat} (hi:i<xs.length) (n:Int):
 GsQ w N4 N6 N8 P x1 x2 x3 x4 G xg (.slice (some ⟨g,0,none⟩) k c) (xs.set i (Cz xs[i] n)) vm mo M (W.setCell ⟨g,i*9+8,none⟩ (.int .i64 n)):=by
 have hg:=nQ W g (i*9+8) (.int .i64 n);have hb:∀ N (cs:Array Value) (t:TypeId),W.heap[N]? =some (Obj.cells cs t)→t≠56→(W.setCell ⟨g,i*9+8,none⟩ (.int .i64 n)).heap[N]? =some (Obj.cells cs t):=fun N cs t hN ht=>(hg.block N (aY hN) (fun e=>Da h.tr hN ht (Option.some.inj e).symm)).trans hN
 obtain ⟨n1,D,h1,h2⟩:=h.mp
 have hmg:g≠w.heap.size+1:=fun e=>by
  obtain ⟨es,clock,hbk,_⟩:=h1
  rcases h.tr.1.2 with ⟨q,_⟩|⟨g',cap,cur,q,_,hgb,_⟩
  · cases q
  · injection q with q _ _
    injection q with q
    injection q with q _ _
    subst q;rw [e] at hgb;rw [hgb] at hbk;cases hbk
 refine ⟨hb _ _ _ h.st (by decide),hb _ _ _ h.b4 (by decide),hb _ _ _ h.b6 (by decide),hb _ _ _ h.b8 (by decide),h.mn.keptV h.tr.1 hg,h.gr.keptV h.tr.1 hg,h.tr.store hk hi n,World.ownsRow.kept h.nd hg (cA h.nd h.tr.1 (by decide)),⟨n1,D,h1.kept hg (fun e=>hmg (Option.some.inj e).symm),h2⟩,h.below.grown hg h.below.size (fun j e=> ?_)⟩;obtain rfl:=Option.some.inj e;exact (World.ownsRow.lt h.tr.1 g rfl).1
theorem xP {w w':World} {N:Nat} {cs:Array Value} (hN:w.heap[N]? =some (.cells cs 32)) (hg:w.grownBy w' (some N)):∀ {B e z v n ys},w.ownsRow B e z v n ys→32≠e→w'.ownsRow B e z v n ys:=fun hr hne=>World.ownsRow.kept hr hg (dM hr hN (fun _ q=>hne (Obj.cells.inj q).2.1))
theorem OwnM.far {w w':World} {B:Nat} {P:Mn} {v1 v2 v3 v4:Value} (h:OwnM w B P v1 v2 v3 v4) {N:Nat} {cs:Array Value} (hN:w.heap[N]? =some (.cells cs 32)) (hg:w.grownBy w' (some N)):OwnM w' B P v1 v2 v3 v4:=by
 have hd:∀ {v:Value} {ps:List (Dp×Value)},OwnD w B v ps→OwnD w' B v ps:=fun hq=>⟨xP hN hg hq.1 (by decide),fun p hp=>xP hN hg (hq.2 p hp) (by decide)⟩
 obtain ⟨q1,q2,q3,q4,h1,h2,h3,h4⟩:=h;exact ⟨q1,q2,q3,q4,⟨hd h1.1,h1.2⟩,⟨hd h2.1,h2.2⟩,⟨hd h3.1,h3.2⟩,hd h4.1,h4.2⟩
theorem OwnGr.far {w w':World} {B:Nat} {v:Value} {G:List Nd} (h:OwnGr w B v G) {N:Nat} {cs:Array Value} (hN:w.heap[N]? =some (.cells cs 32)) (hg:w.grownBy w' (some N)):OwnGr w' B v G:=by
 obtain ⟨all,e,ha⟩:=h;exact ⟨all,e,xP hN hg ha.1 (by decide),fun x hx=>⟨xP hN hg (ha.2 x hx).1 (by decide),xP hN hg (ha.2 x hx).2 (by decide)⟩⟩
theorem xQ {w:World} {N:Nat} {u0 u1 u2 u3 u4 u5 u6:Value}:w.grownBy (((((((w.setCell ⟨N,0,none⟩ u0).setCell ⟨N,1,none⟩ u1).setCell ⟨N,2,none⟩ u2).setCell ⟨N,3,none⟩ u3).setCell ⟨N,4,none⟩ u4).setCell ⟨N,5,none⟩ u5).setCell ⟨N,6,none⟩ u6) (some N):=
 ⟨(bF (Nat.zero_le _) (Below.refl 0 w)).os,(bF (Nat.zero_le _) (Below.refl 0 w)).tape,(bF (Nat.zero_le _) (Below.refl 0 w)).output,(bF (Nat.zero_le _) (Below.refl 0 w)).size,fun _ _ hj=>QO (fun e=>hj (by rw [e]))⟩
def StOwn (w:World) (B:Nat) (sv:Value) (P:Mn) (G:List Nd) (L:List Dr) (pr:Bool):Prop:=∃ a1 n1 c1 a2 n2 c2 a3 n3 c3 a4 n4 c4 ag ng cg at_ nt ct,sv= .agg #[.slice a1 n1 c1,.slice a2 n2 c2,.slice a3 n3 c3,.slice a4 n4 c4,.slice ag ng cg,.slice at_ nt ct,.bool pr]∧
 OwnM w B P (.slice a1 n1 c1) (.slice a2 n2 c2) (.slice a3 n3 c3) (.slice a4 n4 c4)∧OwnGr w B (.slice ag ng cg) G∧∃ ys,RowV w B (.slice at_ nt ct) ys∧ys.map Dv.d=L
theorem StOwn.below {w w':World} {B:Nat} {sv:Value} {P:Mn} {G:List Nd} {L:List Dr} {pr:Bool} (h:StOwn w B sv P G L pr) (hb:Below w.heap.size w w'):StOwn w' B sv P G L pr:=by
 obtain ⟨a1,n1,c1,a2,n2,c2,a3,n3,c3,a4,n4,c4,ag,ng,cg,at_,nt,ct,e,h1,h2,ys,h3,h4⟩:=h;exact ⟨a1,n1,c1,a2,n2,c2,a3,n3,c3,a4,n4,c4,ag,ng,cg,at_,nt,ct,e,h1.below hb,h2.below hb,ys,h3.below hb,h4⟩
theorem StOwn.base {w:World} {B C:Nat} {sv:Value} {P:Mn} {G:List Nd} {L:List Dr} {pr:Bool} (h:StOwn w B sv P G L pr) (hc:C≤B):StOwn w C sv P G L pr:=by
 obtain ⟨a1,n1,c1,a2,n2,c2,a3,n3,c3,a4,n4,c4,ag,ng,cg,at_,nt,ct,e,h1,h2,ys,h3,h4⟩:=h;exact ⟨a1,n1,c1,a2,n2,c2,a3,n3,c3,a4,n4,c4,ag,ng,cg,at_,nt,ct,e,h1.base hc,h2.base hc,ys,⟨eB h3.1 hc,fun x hx=>⟨eB (h3.2 x hx).1 hc,(h3.2 x hx).2.base hc⟩⟩,h4⟩
theorem StOwn.far {w w':World} {B:Nat} {sv:Value} {P:Mn} {G:List Nd} {L:List Dr} {pr:Bool} (h:StOwn w B sv P G L pr) {N:Nat} {cs:Array Value} (hN:w.heap[N]? =some (.cells cs 32)) (hg:w.grownBy w' (some N)):StOwn w' B sv P G L pr:=by
 obtain ⟨a1,n1,c1,a2,n2,c2,a3,n3,c3,a4,n4,c4,ag,ng,cg,at_,nt,ct,e,h1,h2,ys,h3,h4⟩:=h;exact ⟨a1,n1,c1,a2,n2,c2,a3,n3,c3,a4,n4,c4,ag,ng,cg,at_,nt,ct,e,h1.far hN hg,h2.far hN hg,ys,h3.far hN (by decide) (by decide) hg,h4⟩
noncomputable def gM (ts:List Fi):Mn:=gMn (cP (ts.foldl aR []) kF).da
noncomputable def gG (ts:List Fi):List Nd:=gGr (cP (ts.foldl aR []) gW).da
noncomputable def gT (ts:List Fi):List Dr:=mC (bW (ts.foldl aR []) ts) (fV (bW (ts.foldl aR []) ts) (gG ts))
noncomputable def gB (ts:List Fi):Bool:=(qW (ts.foldl aR []) qH).isSome
def GsR (w:World) (ts:List Fi) (e:Ending) (w':World):Prop:=∃ sv,e= .returned sv∧StOwn w' w.heap.size sv (gM ts) (gG ts) (gT ts) (gB ts)∧Below w.heap.size w w'
def PrsOk (w:World) (ts:List Fi):Prop:=(∀ W,Below w.heap.size w W→Calls Tryz.prog 87 #[.string (cP (ts.foldl aR []) kF).da] W fun e w'=>∃ a1 n1 c1 a2 n2 c2 a3 n3 c3 a4 n4 c4 er,e= .returned (.tuple #[.agg #[.slice a1 n1 c1,.slice a2 n2 c2,.slice a3 n3 c3,.slice a4 n4 c4],.int .i64 er])∧OwnM w' W.heap.size (gMn (cP (ts.foldl aR []) kF).da) (.slice a1 n1 c1) (.slice a2 n2 c2) (.slice a3 n3 c3) (.slice a4 n4 c4)∧Below W.heap.size W w')∧(∀ W,Below w.heap.size w W→Calls Tryz.prog 88 #[.string (cP (ts.foldl aR []) gW).da] W fun e w'=>∃ a n c er,e= .returned (.tuple #[.agg #[.slice a n c],.int .i64 er])∧OwnGr w' W.heap.size (.slice a n c) (gGr (cP (ts.foldl aR []) gW).da)∧Below W.heap.size W w')∧PkPr w ts
theorem Db {w:World} (ts:List Fi) (he:Env w) (hf:FL w):PrsOk w ts:=⟨fun _ hb=>UM _ (he.below hb) (hf.below hb),fun _ hb=>UN _ (he.below hb),fun _ _ _ _ hb t=>UJ t (he.below hb) (hf.below hb)⟩
theorem PkPr.below {w w':World} {ts:List Fi} (h:PkPr w ts) (hb:Below w.heap.size w w'):PkPr w' ts:=fun x hx hs W hW t=>h x hx hs W (aA hb hW) t
theorem PrsOk.below {w w':World} {ts:List Fi} (h:PrsOk w ts) (hb:Below w.heap.size w w'):PrsOk w' ts:=⟨fun W hW=>h.1 W (aA hb hW),fun W hW=>h.2.1 W (aA hb hW),h.2.2.below hb⟩
abbrev stZ:Obj:= .cells #[.slice none 0 0,.slice none 0 0,.slice none 0 0,.slice none 0 0,.slice none 0 0,.slice none 0 0,.bool false] 32
set_option maxHeartbeats 12800000 in
theorem JT {ts:List Fi} {v:Value} {w:World} (h:FlsAt w v ts) (hz:ts.length≤100000) (hs:∀ x ∈ ts,x.pa.size≤8796093022208) (hpr:PrsOk w ts) (he:Env w) (hf:FL w):
 Calls Tryz.prog 35 #[v] w (GsR w ts):=by
 have HFL:=aB h;have HBP:Hid (∀ W,Below w.heap.size w W→Calls Tryz.prog 86 #[v] W fun e w'=>e= .returned (.map (some W.heap.size))∧(∃ n D,w'.ownsMap Tryz.prog 9 gO W.heap.size n D∧MapF D (ts.foldl aR []))∧Below W.heap.size W w'):=fun W hb=>JN (h.below hb) (by omega) (fun x hx=>by have:=hs x hx;unfold maxLen;omega)
 have HMP:Hid (∀ W,Below w.heap.size w W→Calls Tryz.prog 87 #[.string (cP (ts.foldl aR []) kF).da] W fun e w'=>∃ a1 n1 c1 a2 n2 c2 a3 n3 c3 a4 n4 c4 er,e= .returned (.tuple #[.agg #[.slice a1 n1 c1,.slice a2 n2 c2,.slice a3 n3 c3,.slice a4 n4 c4],.int .i64 er])∧OwnM w' W.heap.size (gMn (cP (ts.foldl aR []) kF).da) (.slice a1 n1 c1) (.slice a2 n2 c2) (.slice a3 n3 c3) (.slice a4 n4 c4)∧Below W.heap.size W w'):=hpr.1;have HGP:Hid (∀ W,Below w.heap.size w W→Calls Tryz.prog 88 #[.string (cP (ts.foldl aR []) gW).da] W fun e w'=>∃ a n c er,e= .returned (.tuple #[.agg #[.slice a n c],.int .i64 er])∧OwnGr w' W.heap.size (.slice a n c) (gGr (cP (ts.foldl aR []) gW).da)∧Below W.heap.size W w'):=hpr.2.1
 have HGT:Hid (∀ W mb,Below w.heap.size w W→(∃ n D,W.ownsMap Tryz.prog 9 gO mb n D∧MapF D (ts.foldl aR []))→Calls Tryz.prog 89 #[v,.map (some mb)] W (GtR W (ts.foldl aR []) ts)):=fun W mb hb ⟨n,D,h1,h2⟩=>UK (h.below hb) hz h1 h2 (fun x hx=>⟨by have:=hs x hx;omega,Cx (hs x hx)⟩) (hpr.2.2.below hb)
 have hgl:(bW (ts.foldl aR []) ts).length≤100001:=by
  unfold bW;rw [List.length_cons]
  have:=nP (ts.foldl aR []) ts
  omega
 have HMA:Hid (∀ W vt vg,Below w.heap.size w W→DirsAt W vt (bW (ts.foldl aR []) ts)→NodesAt W vg (gGr (cP (ts.foldl aR []) gW).da)→Calls Tryz.prog 63 #[.agg #[vt],.agg #[vg]] W fun e w'=>qF W (bW (ts.foldl aR []) ts) (gGr (cP (ts.foldl aR []) gW).da) e w'):=fun W vt vg hb h1 h2=>PR h1 (by omega) (JR hs) h2 (ZP _) (he.below hb) (hf.below hb)
 have HLK:Hid (∀ W mb,(∃ n D,W.ownsMap Tryz.prog 9 gO mb n D∧MapF D (ts.foldl aR []))→∀ s:ByteArray,s.size≤1000→(Instr.lookup 74 (.map (some mb)) (.string s) true).run Tryz.prog W= .ok (.tuple #[.agg #[.string (cP (ts.foldl aR []) s).pa,.bool (cP (ts.foldl aR []) s).dr,.string (cP (ts.foldl aR []) s).da],.bool (qW (ts.foldl aR []) s).isSome]) W∧(Instr.lookup 74 (.map (some mb)) (.string s) false).run Tryz.prog W= .ok (.agg #[.string (cP (ts.foldl aR []) s).pa,.bool (cP (ts.foldl aR []) s).dr,.string (cP (ts.foldl aR []) s).da]) W):=fun W mb ⟨n,D,h1,h2⟩ s hs=>BD h1 h2 s (by unfold maxLen;omega)
 have HOR:Hid (fV (bW (ts.foldl aR []) ts) (gGr (cP (ts.foldl aR []) gW).da)=[]∨(fV (bW (ts.foldl aR []) ts) (gGr (cP (ts.foldl aR []) gW).da)).length=(bW (ts.foldl aR []) ts).length):=Cw _ _
 have HQ:Hid (∀ a1 n1 c1 a2 n2 c2 a3 n3 c3 a4 n4 c4 ag ng cg at_ nt ct ys W,OwnM W w.heap.size (gMn (cP (ts.foldl aR []) kF).da) (.slice a1 n1 c1) (.slice a2 n2 c2) (.slice a3 n3 c3) (.slice a4 n4 c4)→OwnGr W w.heap.size (.slice ag ng cg) (gGr (cP (ts.foldl aR []) gW).da)→RowV W w.heap.size (.slice at_ nt ct) ys→ys.map Dv.d=mC (bW (ts.foldl aR []) ts) (fV (bW (ts.foldl aR []) ts) (gGr (cP (ts.foldl aR []) gW).da))→Below w.heap.size w W→GsR w ts (.returned (.agg #[.slice a1 n1 c1,.slice a2 n2 c2,.slice a3 n3 c3,.slice a4 n4 c4,.slice ag ng cg,.slice at_ nt ct,.bool (qW (ts.foldl aR []) qH).isSome])) W):=fun a1 n1 c1 a2 n2 c2 a3 n3 c3 a4 n4 c4 ag ng cg at_ nt ct ys W h1 h2 h3 h4 h5=>⟨_,rfl,⟨a1,n1,c1,a2,n2,c2,a3,n3,c3,a4,n4,c4,ag,ng,cg,at_,nt,ct,rfl,h1,h2,ys,h3,h4⟩,h5⟩
 generalize GsR w ts=Q at*;have HL1:=aB (fun W h=>(HLK.out W (w.heap.size+1) h kF (by decide)).2);have HL2:=aB (fun W h=>(HLK.out W (w.heap.size+1) h gW (by decide)).2);have HL3:=aB (fun W h=>(HLK.out W (w.heap.size+1) h qH (by decide)).1);have hfd:=QV;obtain ⟨va,vc,rfl,_⟩:=h;have HB0:Hid (Below w.heap.size w (w.alloc stZ)):=aC _ _;have HT0:Hid ((w.alloc stZ).heap[w.heap.size]? =some stZ):=World.alloc_heap_new w _;have hsz0:(w.alloc stZ).heap.size=w.heap.size+1:=by simp
 have HS0:=aB hsz0;clear hs he hf hpr HLK hsz0 HFL;generalize ts.foldl aR []=M at*;generalize hLd:bW M ts=L at*;have HLD:=aB hLd;clear hLd;generalize cP M kF=fm at*;generalize cP M gW=fl at*;generalize cP M qH=fp at*;generalize (qW M qH).isSome=pb at*;have HMC:=aB HMP.out;have HGC:=aB HGP.out;generalize gMn fm.da=P at*;generalize gGr fl.da=G at*;generalize hmo:fV L G=mo at*;have HMO:=aB hmo;clear hmo;unfold kF at HL1;unfold gW at HL2;unfold qH at HL3;clear HMP HGP
 go_enter Tryz.func35,Tryz.ntmps35
 go_upto_region 2 with (go_at_call 86;refine (HBP.out _ HB0.out).mono ?_;rintro e W1 ⟨rfl,hm1,ok⟩;rw [HS0.out] at hm1;have HM1:=aB hm1;have HB1:=aB (aA HB0.out ok);have HT1:Hid (W1.heap[w.heap.size]? =some stZ):=(ok.block _ (aY HT0.out)).trans HT0.out;clear hm1 ok HT0 HB0)
 have hlk1:=HL1.out W1 HM1.out;clear HBP HL1
 go_upto_region 3 with (go_at_call 87;refine (HMC.out _ HB1.out).mono ?_;rintro e W2 ⟨a1,n1,c1,a2,n2,c2,a3,n3,c3,a4,n4,c4,er,rfl,hmn,ok⟩;have HMN:=aB hmn;have HK2:=aB ok;clear hmn ok)
 obtain ⟨U2,hU2⟩:∃ U,U=W2.alloc (.cells #[.slice a1 n1 c1,.slice a2 n2 c2,.slice a3 n3 c3,.slice a4 n4 c4] 24):=⟨_,rfl⟩;have HU2:Hid (Below W2.heap.size W2 U2):=by rw [hU2];exact aC _ _
 have HN2:Hid (U2.heap[W2.heap.size]? =some (.cells #[.slice a1 n1 c1,.slice a2 n2 c2,.slice a3 n3 c3,.slice a4 n4 c4] 24)):=by rw [hU2];exact World.alloc_heap_new W2 _
 rw [←hU2];clear hU2;have HBU2:Hid (Below w.heap.size w U2):=aA (aA HB1.out HK2.out) HU2.out
 have HM2:Hid (∃ n D,U2.ownsMap Tryz.prog 9 gO (w.heap.size+1) n D∧MapF D M):=by
  obtain ⟨n,D,h1,h2⟩:=HM1.out;exact ⟨n,D,bS h1 (aA HK2.out HU2.out),h2⟩
 have hlk2:=HL2.out U2 HM2.out;clear hlk1 HL2
 go_upto_region 4 with (go_at_call 88;refine (HGC.out _ HBU2.out).mono ?_;rintro e W3 ⟨ag,ng,cg,eg,rfl,hgr,ok⟩;have HGR:=aB hgr;have HK3:=aB ok;clear hgr ok)
 obtain ⟨U3,hU3⟩:∃ U,U=W3.alloc (.cells #[.slice ag ng cg] 27):=⟨_,rfl⟩;have HU3:Hid (Below W3.heap.size W3 U3):=by rw [hU3];exact aC _ _
 have HN3:Hid (U3.heap[W3.heap.size]? =some (.cells #[.slice ag ng cg] 27)):=by rw [hU3];exact World.alloc_heap_new W3 _
 rw [←hU3];clear hU3 hlk2;have HS3:Hid (Below U2.heap.size U2 U3):=aA HK3.out HU3.out;have HBU3:Hid (Below w.heap.size w U3):=aA HBU2.out HS3.out
 have HM3:Hid (∃ n D,U3.ownsMap Tryz.prog 9 gO (w.heap.size+1) n D∧MapF D M):=by
  obtain ⟨n,D,h1,h2⟩:=HM2.out;exact ⟨n,D,bS h1 HS3.out,h2⟩
 go_upto_region 5 with (go_at_call 89;refine (HGT.out _ _ HBU3.out HM3.out).mono ?_;rintro e W4 ⟨at_,nt,ct,xs,rfl,hrow,hxs,ok⟩;rw [HLD.out] at hxs;have HRW:=aB hrow;have HXS:=aB hxs;have HK4:=aB ok;clear hrow hxs ok)
 obtain ⟨U4,hU4⟩:∃ U,U=W4.alloc (.cells #[.slice at_ nt ct] 30):=⟨_,rfl⟩;have HU4:Hid (Below W4.heap.size W4 U4):=by rw [hU4];exact aC _ _
 have HN4:Hid (U4.heap[W4.heap.size]? =some (.cells #[.slice at_ nt ct] 30)):=by rw [hU4];exact World.alloc_heap_new W4 _
 rw [←hU4];clear hU4;have HS4:Hid (Below U3.heap.size U3 U4):=aA HK4.out HU4.out;have HBU4:Hid (Below w.heap.size w U4):=aA HBU3.out HS4.out;have HG4:Hid (U4.heap[W3.heap.size]? =some (.cells #[.slice ag ng cg] 27)):=(HS4.out.block _ (aY HN3.out)).trans HN3.out;have HRW4:Hid (RowV U4 w.heap.size (.slice at_ nt ct) xs):=⟨eB (dN HRW.out.1 HU4.out) HBU3.out.size,fun x hx=>⟨eB (dN (HRW.out.2 x hx).1 HU4.out) HBU3.out.size,((HRW.out.2 x hx).2.base HBU3.out.size).below HU4.out⟩⟩;have HGR4:Hid (OwnGr U4 w.heap.size (.slice ag ng cg) G):=((HGR.out.base HBU2.out.size).below HU3.out).below HS4.out
 have HDA:Hid (DirsAt U4 (.slice at_ nt ct) L):=by
  have e:=HRW4.out.at;rw [HXS.out] at e;exact e
 have g6:U4.cell? ⟨W3.heap.size,0,none⟩=some (.slice ag ng cg):=by simp [World.cell?,HG4.out]
 have t8:U4.cell? ⟨W4.heap.size,0,none⟩=some (.slice at_ nt ct):=by simp [World.cell?,HN4.out]
 go_upto_region 6 with (go_at_call 63;refine (HMA.out _ _ _ HBU4.out HDA.out HGR4.out.at).mono ?_;rintro e W5 ⟨vm,rfl,hoi,ok⟩;rw [HMO.out] at hoi;obtain ⟨am,cm,rfl,hro⟩:=AY hoi;have HOI:=aB hoi;have HK5:=aB ok;clear hoi hro ok g6 t8)
 have HG5:Hid (GsQ w W2.heap.size W3.heap.size W4.heap.size P (.slice a1 n1 c1) (.slice a2 n2 c2) (.slice a3 n3 c3) (.slice a4 n4 c4) G (.slice ag ng cg) (.slice at_ nt ct) xs (.slice am mo.length cm) mo M W5):=by
  have hb25:Below U2.heap.size U2 U4:=aA HS3.out HS4.out;obtain ⟨n,D,h1,h2⟩:=HM3.out;refine ⟨?_,?_,?_,?_,?_,HGR4.out.below HK5.out,HRW4.out.below HK5.out,eB HOI.out HBU4.out.size,⟨n,D,bS (bS h1 HS4.out) HK5.out,h2⟩,aA HBU4.out HK5.out⟩
  · have q1:=HT1.out
    have q2:=(HK2.out.block _ (aY q1)).trans q1;have q3:=(HU2.out.block _ (aY q2)).trans q2;have q4:=(hb25.block _ (aY q3)).trans q3;exact (HK5.out.block _ (aY q4)).trans q4
  · have q4:=(hb25.block _ (aY HN2.out)).trans HN2.out
    exact (HK5.out.block _ (aY q4)).trans q4
  · exact (HK5.out.block _ (aY HG4.out)).trans HG4.out
  · exact (HK5.out.block _ (aY HN4.out)).trans HN4.out
  · exact (((HMN.out.base HB1.out.size).below HU2.out).below hb25).below HK5.out
 have HNT:Hid (nt=xs.length∧(0<xs.length→∃ g,at_=some ⟨g,0,none⟩)):=by
  rcases HRW4.out.1.2 with ⟨q,hn⟩|⟨g,cap,cur,q,_⟩
  · injection q with q1 q2 _
    exact ⟨by rw [q2,hn],fun h=>by omega⟩
  · injection q with q1 q2 _
    exact ⟨q2,fun _=>⟨g,q1⟩⟩
 have HXL:Hid (mo.length≤xs.length):=by
  have e:xs.length=L.length:=by rw [←HXS.out,List.length_map]
  unfold Hid
  rcases HOR.out with q|q
  · rw [q];simp
  · omega
 have HY0:Hid (∃ ys,GsQ w W2.heap.size W3.heap.size W4.heap.size P (.slice a1 n1 c1) (.slice a2 n2 c2) (.slice a3 n3 c3) (.slice a4 n4 c4) G (.slice ag ng cg) (.slice at_ nt ct) ys (.slice am mo.length cm) mo M W5∧ys.length=xs.length∧ys.map Dv.d=mC L (mo.take 0)):=⟨xs,HG5.out,rfl,by rw [List.take_zero,ZQ];exact HXS.out⟩
 have hml:mo.length≤100001:=by
  have e:xs.length=L.length:=by rw [←HXS.out,List.length_map]
  have:=HXL.out
  omega
 have HLL:Hid (xs.length=L.length):=by unfold Hid;rw [←HXS.out,List.length_map]
 clear HMC HGC HGT HMA HOR HMN HK2 HU2 HN2 HBU2 HM2 HM1 HB1 HT1 HGR HK3 HU3 HN3 HS3 HBU3 HM3 HRW HK4 HU4 HN4 HS4 HBU4 HG4 HRW4 HGR4 HDA HOI HK5 HG5 HS0
 go_wp2_with fail
 go_loopw [42] (fun vi wr=>∃ k:Nat,k≤mo.length∧vi= .int .i64 k∧Hid (∃ ys,GsQ w W2.heap.size W3.heap.size W4.heap.size P (.slice a1 n1 c1) (.slice a2 n2 c2) (.slice a3 n3 c3) (.slice a4 n4 c4) G (.slice ag ng cg) (.slice at_ nt ct) ys (.slice am mo.length cm) mo M wr∧ys.length=xs.length∧ys.map Dv.d=mC L (mo.take k))) (fun vi _=>mo.length - (intOf vi).toNat)
 case atStart=>exact ⟨0,Nat.zero_le _,rfl,HY0⟩
 case round=>
  obtain ⟨k,hk,rfl,HYK⟩:=hrel;clear HY0;obtain ⟨ys,hgs,hyl,hys⟩:=HYK.out;clear HYK
  by_cases hlt:k<mo.length
  · have hki:(k:Int)<(mo.length:Int):=by omega
    have hky:k<ys.length:=by have:=HXL.out;omega
    obtain ⟨hnt,hat⟩:=HNT.out;obtain ⟨g,rfl⟩:=hat (by omega);obtain ⟨a',c',e,hro⟩:=AY hgs.nd;cases e;obtain ⟨gm,rfl,i0,_⟩:=hro k hlt;have hnk:nt=ys.length:=by omega
    have b8:wr.cell? ⟨W4.heap.size,0,none⟩=some (.slice (some ⟨g,0,none⟩) nt ct):=by simp [World.cell?,hgs.b8]
    have r0:wr.cell? ⟨g,k*9+8,none⟩=some (.int .i64 ys[k].d.nd):=by
     have h1:=hgs.tr.1;rw [hnk] at h1;rw [World.ownsRow.cellAt h1 (k*9+8) (by omega),QW ys k 8 hky (by decide)];rfl
    have r1:wr.frozen? ⟨g,k*9+8,none⟩=false:=by
     have h1:=hgs.tr.1;rw [hnk] at h1;exact World.ownsRow.frozenAt h1 _
    have hkt:(k:Int)<(nt:Int):=by omega
    have HX:Hid (∃ ys,GsQ w W2.heap.size W3.heap.size W4.heap.size P (.slice a1 n1 c1) (.slice a2 n2 c2) (.slice a3 n3 c3) (.slice a4 n4 c4) G (.slice ag ng cg) (.slice (some ⟨g,0,none⟩) nt ct) ys (.slice (some ⟨gm,0,none⟩) mo.length cm) mo M (wr.setCell ⟨g,k*9+8,none⟩ (.int .i64 mo[k]))∧ys.length=xs.length∧ys.map Dv.d=mC L (mo.take (k+1))):=by
     refine ⟨_,hgs.store hnk hky mo[k],by rw [List.length_set];exact hyl,?_⟩;have hkL:k<L.length:=by have:=HLL.out;omega
     rw [List.map_set,hys,UO hlt hkL]
     congr 1
     have hd:ys[k].d=(mC L (mo.take k))[k]'(by rw [iJ];exact hkL):=by
      have:=List.getElem_of_eq hys (i:=k) (by simpa using hky)
      rw [List.getElem_map] at this;exact this
     unfold Cz;rw [hd,mV hkL]
    clear hgs hys hro HNT hat hyl;generalize ys[k].d.nd=od at*;generalize mo[k]=mk at*;have hnk2:=aB hnk;clear hnk hnt
    go_wp2_with fail
    exact ⟨⟨k+1,by omega,by go_num,HX⟩,by simp [intOf];omega⟩
  · obtain rfl:k=mo.length:=by omega
    have hki:¬ (mo.length:Int)<(mo.length:Int):=by omega
    have HG6:=aB (hgs.keep (aC wr (.cells #[.string fp.pa,.bool fp.dr,.string fp.da] 45)));have hlk3:=HL3.out wr hgs.mp;have HYS:Hid (ys.map Dv.d=mC L mo):=by have e:=hys;rw [List.take_length] at e;exact e
    obtain ⟨V,hV⟩:∃ V,V=wr.alloc (.cells #[.string fp.pa,.bool fp.dr,.string fp.da] 45):=⟨_,rfl⟩;rw [←hV] at HG6;have hc:∀ i u,(#[Value.slice none 0 0,.slice none 0 0,.slice none 0 0,.slice none 0 0,.slice none 0 0,.slice none 0 0,.bool false]:Array Value)[i]? =some u→V.cell? ⟨w.heap.size,i,none⟩=some u:=fun i u q=>by rw [Lib.cell_of_heap HG6.out.st];exact q
    have hz:∀ i,V.frozen? ⟨w.heap.size,i,none⟩=false:=fun i=>by simp [World.frozen?,HG6.out.st]
    have k0:=hc 0 _ rfl;have k1:=hc 1 _ rfl;have k2:=hc 2 _ rfl;have k3:=hc 3 _ rfl;have k4:=hc 4 _ rfl;have k5:=hc 5 _ rfl;have k6:=hc 6 _ rfl;have z0:=hz 0;have z1:=hz 1;have z2:=hz 2;have z3:=hz 3;have z4:=hz 4;have z5:=hz 5;have z6:=hz 6;have m0:V.cell? ⟨W2.heap.size,0,none⟩=some (.slice a1 n1 c1):=by rw [Lib.cell_of_heap HG6.out.b4];rfl
    have m1:V.cell? ⟨W2.heap.size,1,none⟩=some (.slice a2 n2 c2):=by rw [Lib.cell_of_heap HG6.out.b4];rfl
    have m2:V.cell? ⟨W2.heap.size,2,none⟩=some (.slice a3 n3 c3):=by rw [Lib.cell_of_heap HG6.out.b4];rfl
    have m3:V.cell? ⟨W2.heap.size,3,none⟩=some (.slice a4 n4 c4):=by rw [Lib.cell_of_heap HG6.out.b4];rfl
    have m6:V.cell? ⟨W3.heap.size,0,none⟩=some (.slice ag ng cg):=by rw [Lib.cell_of_heap HG6.out.b6];rfl
    have m8:V.cell? ⟨W4.heap.size,0,none⟩=some (.slice at_ nt ct):=by rw [Lib.cell_of_heap HG6.out.b8];rfl
    have s7:=mT k0 k1 k2 k3 k4 k5 k6 (.slice a1 n1 c1) (.slice a2 n2 c2) (.slice a3 n3 c3) (.slice a4 n4 c4) (.slice ag ng cg) (.slice at_ nt ct) (.bool pb)
    have HR:Hid (Q (.returned (.agg #[.slice a1 n1 c1,.slice a2 n2 c2,.slice a3 n3 c3,.slice a4 n4 c4,.slice ag ng cg,.slice at_ nt ct,.bool pb])) (((((((V.setCell ⟨w.heap.size,0,none⟩ (.slice a1 n1 c1)).setCell ⟨w.heap.size,1,none⟩ (.slice a2 n2 c2)).setCell ⟨w.heap.size,2,none⟩ (.slice a3 n3 c3)).setCell ⟨w.heap.size,3,none⟩ (.slice a4 n4 c4)).setCell ⟨w.heap.size,4,none⟩ (.slice ag ng cg)).setCell ⟨w.heap.size,5,none⟩ (.slice at_ nt ct)).setCell ⟨w.heap.size,6,none⟩ (.bool pb))):=by
     exact HQ.out _ _ _ _ _ _ _ _ _ _ _ _ _ _ _ _ _ _ ys _ (HG6.out.mn.far HG6.out.st xQ) (HG6.out.gr.far HG6.out.st xQ) (HG6.out.tr.far HG6.out.st (by decide) (by decide) xQ) HYS.out (bF (Nat.le_refl _) HG6.out.below)
    clear hgs hys hc hz HG6 HYS hyl HNT HXL HLL HXS HQ;subst hV
    go_wp2_with fail
    refine bodyPost_ret (by simp [results,Tryz.results35,s7,go_sem];try rfl) rfl ?_;exact HR.out
def xR (x y:Fi):Bool:=decide (x.pa.toList=y.pa.toList)&&(decide (x.dr=y.dr)&&decide (x.da.toList=y.da.toList))
theorem qY {x y:Fi}:xR x y=true↔x=y:=by
 unfold xR;simp only [Bool.and_eq_true,decide_eq_true_eq]
 constructor
 · rintro ⟨h1,h2,h3⟩
   have e:∀ s t:ByteArray,s.toList=t.toList→s=t:=fun s t h=>by
    rw [ByteArray.toList_eq,ByteArray.toList_eq] at h;cases s;cases t;simp only [ByteArray.mk.injEq];exact Array.toList_inj.1 h
   cases x;cases y
   simp only at h1 h2 h3
   rw [e _ _ h1,h2,e _ _ h3]
 · rintro rfl
   exact ⟨rfl,rfl,rfl⟩
theorem Fh (p p':ByteArray) (c c':Bool) (t t':ByteArray) (w:World):(Op.equalIn 10000 45 (.agg #[.string p,.bool c,.string t]) (.agg #[.string p',.bool c',.string t'])).run Tryz.prog w= .ok (xR ⟨p,c,t⟩ ⟨p',c',t'⟩) w:=by
 have u3:=Tryz.underlying4;have a3:=Tryz.isAgg4;have z3:=Tryz.sizeOf4;have u9:=Tryz.underlying9;have a9:=Tryz.isAgg9;have z9:=Tryz.sizeOf9;rw [show (10000:Nat)=9999+1 from rfl,run_equalIn_agg w 9999 45 _ _ (by kernel_rfl) (by kernel_rfl)];unfold xR;simp only [Program.fieldsOf,Tryz.underlying45]
 by_cases h1:p.toList=p'.toList
 · by_cases h2:c=c'
   · subst h2
     by_cases h3:t.toList=t'.toList
     · simp only [h1,h3,decide_true,Bool.and_true];go_simp
     · simp only [h1,h3,decide_true,decide_false,Bool.and_false];go_simp
   · simp only [h1,h2,decide_true,decide_false,Bool.and_false,Bool.false_and];go_simp
 · simp only [h1,decide_false,Bool.false_and];go_simp
theorem Dq (p p':ByteArray) (c c':Bool) (t t':ByteArray) (w:World):(binOp .neq 45 (.agg #[.string p,.bool c,.string t]) (.agg #[.string p',.bool c',.string t'])).run Tryz.prog w= .ok (.bool (!(xR ⟨p,c,t⟩ ⟨p',c',t'⟩))) w:=by
 rw [run_neq_struct,Fh];rfl
theorem NP (w:World) (a b:Nat):(w.drewN a).drewN b=w.drewN (a+b):=by
 unfold World.drewN;simp [Nat.add_assoc]
theorem jW (w:World) (q:Nat):Below w.heap.size w (w.drewN q):=by
 induction q with
 |zero=>exact Below.refl _ _
 |succ n ih=>
  have e:w.drewN (n+1)=(w.drewN n).drew:=(NP w n 1).symm;rw [e];exact ih.drew
theorem NQ {a b:Bool} (h:a=b):Ending.returned (.bool a)= .returned (.bool b):=by rw [h]
set_option maxHeartbeats 3200000 in
theorem JU {fs gs:List Fi} {a b:Option Addr} {ca cb:Nat} {w:World} (ha:∀ i (hi:i<fs.length),∃ g o,a=some ⟨g,o,none⟩∧xM w g (o+i*3) fs[i]) (hb:∀ i (hi:i<gs.length),∃ g o,b=some ⟨g,o,none⟩∧xM w g (o+i*3) gs[i]) (hz:fs.length≤1000000000000) (he:gs.length=fs.length):
 Calls Tryz.prog 36 #[.slice a fs.length ca,.slice b fs.length cb] w fun e w'=>e= .returned (.bool (eqB fs gs))∧Below w.heap.size w w':=by
 have HA:=aB ha;have HB:=aB hb;have HE:=aB he;have HY:Hid ((∀ i (h1:i<fs.length) (h2:i<gs.length),fs[i]=gs[i])→eqB fs gs=true):=fun h=>aX (List.ext_getElem HE.out.symm h)
 have HN:Hid (∀ i (h1:i<fs.length) (h2:i<gs.length),fs[i]≠gs[i]→eqB fs gs=false):=fun i h1 h2 h=>bX (fun e=>h (by subst e;rfl))
 clear ha hb he;generalize eqB fs gs=res at*;have hne:((fs.length:Int) != (fs.length:Int))=false:=by simp
 go_enter Tryz.func36,Tryz.ntmps36
 go_wp2_with fail
 go_loopw [13] (fun i wr=>∃ k:Nat,k≤fs.length∧i= .int .i64 k∧Hid (∀ j (h1:j<fs.length) (h2:j<gs.length),j<k→fs[j]=gs[j])∧∃ q,wr=w.drewN q) (fun i _=>fs.length - (intOf i).toNat)
 case atStart=>exact ⟨0,Nat.zero_le _,rfl,(fun j _ _ h=>absurd h (Nat.not_lt_zero _)),0,rfl⟩
 case round=>
  obtain ⟨k,hk,rfl,HAL,q,rfl⟩:=hrel
  by_cases hlt:k<fs.length
  · have hlt2:k<gs.length:=by rw [HE.out];exact hlt
    have hki:(k:Int)<(fs.length:Int):=by omega
    obtain ⟨g,o,rfl,⟨a0,a1,a2⟩,_⟩:=HA.out k hlt;obtain ⟨h,p,rfl,⟨b0,b1,b2⟩,_⟩:=HB.out k hlt2;have hnq:=Dq fs[k].pa gs[k].pa fs[k].dr gs[k].dr fs[k].da gs[k].da
    have HNX:Hid (fs[k]=gs[k]→∀ j (h1:j<fs.length) (h2:j<gs.length),j<k+1→fs[j]=gs[j]):=fun e j h1 h2 hj=>by
     rcases Nat.lt_or_ge j k with hh|hh
     · exact HAL.out j h1 h2 hh
     · obtain rfl:j=k:=by omega
       exact e
    have HNO:=aB (HN.out k hlt hlt2);clear HAL;generalize fs[k]=x at*;generalize gs[k]=y at*;clear hlt2;cases hb:xR x y
    · have e:(!(xR ⟨x.pa,x.dr,x.da⟩ ⟨y.pa,y.dr,y.da⟩))=true:=by rw [hb];rfl
      rw [e] at hnq;have HR:=aB (HNO.out (fun q=>by rw [qY.2 q] at hb;cases hb));clear HNX HNO e hb
      go_wp2_with fail
      go_quiet (fail)
      go_wp2
      go_ret;exact ⟨NQ HR.out.symm,by rw [NP];exact jW _ _⟩
    · have e:(!(xR ⟨x.pa,x.dr,x.da⟩ ⟨y.pa,y.dr,y.da⟩))=false:=by rw [hb];rfl
      rw [e] at hnq;have HR:=aB (HNX.out (qY.1 hb));clear HNX HNO e hb
      go_wp2_with fail
      go_quiet (fail)
      go_wp2
      exact ⟨⟨k+1,by omega,by go_num,HR,q+nq,rfl⟩,by simp [intOf];omega⟩
  · have hki:¬ (k:Int)<(fs.length:Int):=by omega
    have HR:Hid (res=true):=HY.out fun i h1 h2=>HAL.out i h1 h2 (by omega)
    go_wp2
    go_ret;exact ⟨NQ HR.out.symm,jW _ _⟩
theorem qZ {n n2:Nat} {ao bo:Option Addr} {ca cb:Nat} {w:World} (h:n≠n2):Calls Tryz.prog 36 #[.slice ao n ca,.slice bo n2 cb] w fun e w'=>e= .returned (.bool false)∧Below w.heap.size w w':=by
 have hne:((n:Int) != (n2:Int))=true:=bne_iff_ne.2 (by omega);clear h
 go_enter Tryz.func36,Tryz.ntmps36
 go_wp2_with fail
 go_ret;exact ⟨rfl,Below.refl _ _⟩
theorem NR {fs gs:List Fi} {u v:Value} {w:World} (ha:FlsAt w u fs) (hb:FlsAt w v gs) (hz:fs.length≤1000000000000):
 Calls Tryz.prog 36 #[u,v] w fun e w'=>e= .returned (.bool (eqB fs gs))∧Below w.heap.size w w':=by
 obtain ⟨a,ca,rfl,_,hfa⟩:=ha;obtain ⟨b,cb,rfl,_,hfb⟩:=hb
 by_cases he:gs.length=fs.length
 · rw [he]
   exact JU hfa hfb hz he
 · refine (qZ (fun e=>he e.symm)).mono ?_
   rintro e w' ⟨rfl,hb⟩;exact ⟨NQ (bX (fun e=>he (by rw [e]))).symm,hb⟩
set_option maxHeartbeats 3200000 in
theorem JV {fs gs:List Fi} {a b:Option Addr} {ca cb:Nat} {w:World} (ha:∀ i (hi:i<fs.length),∃ g o,a=some ⟨g,o,none⟩∧xM w g (o+i*3) fs[i]) (hb:∀ i (hi:i<gs.length),∃ g o,b=some ⟨g,o,none⟩∧xM w g (o+i*3) gs[i]) (hz:fs.length≤1000000000000) (he:gs.length=fs.length):
 Calls Tryz.prog 10 #[.slice a fs.length ca,.slice b fs.length cb] w fun e w'=>e= .returned (.bool (eqB fs gs))∧Below w.heap.size w w':=by
 have HA:=aB ha;have HB:=aB hb;have HE:=aB he;have HY:Hid ((∀ i (h1:i<fs.length) (h2:i<gs.length),fs[i]=gs[i])→eqB fs gs=true):=fun h=>aX (List.ext_getElem HE.out.symm h)
 have HN:Hid (∀ i (h1:i<fs.length) (h2:i<gs.length),fs[i]≠gs[i]→eqB fs gs=false):=fun i h1 h2 h=>bX (fun e=>h (by subst e;rfl))
 clear ha hb he;generalize eqB fs gs=res at*;have hne:((fs.length:Int) != (fs.length:Int))=false:=by simp
 go_enter Tryz.func10,Tryz.ntmps10
 go_wp2_with fail
 go_loopw [5] (fun i wr=>∃ k:Nat,k≤fs.length∧i= .int .i64 k∧Hid (∀ j (h1:j<fs.length) (h2:j<gs.length),j<k→fs[j]=gs[j])∧∃ q,wr=w.drewN q) (fun i _=>fs.length - (intOf i).toNat)
 case atStart=>exact ⟨0,Nat.zero_le _,rfl,(fun j _ _ h=>absurd h (Nat.not_lt_zero _)),0,rfl⟩
 case round=>
  obtain ⟨k,hk,rfl,HAL,q,rfl⟩:=hrel
  by_cases hlt:k<fs.length
  · have hlt2:k<gs.length:=by rw [HE.out];exact hlt
    have hki:(k:Int)<(fs.length:Int):=by omega
    obtain ⟨g,o,rfl,⟨a0,a1,a2⟩,_⟩:=HA.out k hlt;obtain ⟨h,p,rfl,⟨b0,b1,b2⟩,_⟩:=HB.out k hlt2;have hnq:=Dq fs[k].pa gs[k].pa fs[k].dr gs[k].dr fs[k].da gs[k].da
    have HNX:Hid (fs[k]=gs[k]→∀ j (h1:j<fs.length) (h2:j<gs.length),j<k+1→fs[j]=gs[j]):=fun e j h1 h2 hj=>by
     rcases Nat.lt_or_ge j k with hh|hh
     · exact HAL.out j h1 h2 hh
     · obtain rfl:j=k:=by omega
       exact e
    have HNO:=aB (HN.out k hlt hlt2);clear HAL;generalize fs[k]=x at*;generalize gs[k]=y at*;clear hlt2;cases hb:xR x y
    · have e:(!(xR ⟨x.pa,x.dr,x.da⟩ ⟨y.pa,y.dr,y.da⟩))=true:=by rw [hb];rfl
      rw [e] at hnq;have HR:=aB (HNO.out (fun q=>by rw [qY.2 q] at hb;cases hb));clear HNX HNO e hb
      go_wp2_with fail
      go_quiet (fail)
      go_wp2
      go_ret;exact ⟨NQ HR.out.symm,by rw [NP];exact jW _ _⟩
    · have e:(!(xR ⟨x.pa,x.dr,x.da⟩ ⟨y.pa,y.dr,y.da⟩))=false:=by rw [hb];rfl
      rw [e] at hnq;have HR:=aB (HNX.out (qY.1 hb));clear HNX HNO e hb
      go_wp2_with fail
      go_quiet (fail)
      go_wp2
      exact ⟨⟨k+1,by omega,by go_num,HR,q+nq,rfl⟩,by simp [intOf];omega⟩
  · have hki:¬ (k:Int)<(fs.length:Int):=by omega
    have HR:Hid (res=true):=HY.out fun i h1 h2=>HAL.out i h1 h2 (by omega)
    go_wp2
    go_ret;exact ⟨NQ HR.out.symm,jW _ _⟩
theorem DH {n n2:Nat} {ao bo:Option Addr} {ca cb:Nat} {w:World} (h:n≠n2):Calls Tryz.prog 10 #[.slice ao n ca,.slice bo n2 cb] w fun e w'=>e= .returned (.bool false)∧Below w.heap.size w w':=by
 have hne:((n:Int) != (n2:Int))=true:=bne_iff_ne.2 (by omega);clear h
 go_enter Tryz.func10,Tryz.ntmps10
 go_wp2_with fail
 go_ret;exact ⟨rfl,Below.refl _ _⟩
theorem NS {fs gs:List Fi} {u v:Value} {w:World} (ha:FlsAt w u fs) (hb:FlsAt w v gs) (hz:fs.length≤1000000000000):
 Calls Tryz.prog 10 #[u,v] w fun e w'=>e= .returned (.bool (eqB fs gs))∧Below w.heap.size w w':=by
 obtain ⟨a,ca,rfl,_,hfa⟩:=ha;obtain ⟨b,cb,rfl,_,hfb⟩:=hb
 by_cases he:gs.length=fs.length
 · rw [he]
   exact JV hfa hfb hz he
 · refine (DH (fun e=>he e.symm)).mono ?_
   rintro e w' ⟨rfl,hb⟩;exact ⟨NQ (bX (fun e=>he (by rw [e]))).symm,hb⟩
def gOk (us:List Fi):Prop:=erI (gM us) (gG us) (gT us)=0∧dJ (gM us) (gG us) (gT us) (gB us)=us
def RdA (w:World) (fs:List Fi) (sv:Value) (er:Int) (w':World):Prop:=
 (fs=[]→er=0∧StOwn w' w.heap.size sv lA [ndZ] [drZ] false)∧
 (fs≠[]→772<fs.length→sv= .agg #[.slice none 0 0,.slice none 0 0,.slice none 0 0,.slice none 0 0,.slice none 0 0,.slice none 0 0,.bool false]∧er=43)∧
 (fs≠[]→fs.length≤772→∃ us,(us.Perm fs∧oL us)∧(gOk us→er=0∧StOwn w' w.heap.size sv (gM us) (gG us) (gT us) (gB us))∧(¬ gOk us→sv= .agg #[.slice none 0 0,.slice none 0 0,.slice none 0 0,.slice none 0 0,.slice none 0 0,.slice none 0 0,.bool false]∧er=43))
def RdR (w:World) (fs:List Fi) (e:Ending) (w':World):Prop:=∃ sv er,e= .returned (.tuple #[sv,.int .i64 er])∧RdA w fs sv er w'∧Below w.heap.size w w'
theorem JW {w:World} {B g1 g2:Nat} (h1:w.heap[g1]? =some (.cells #[.string ⟨#[]⟩,.int .i64 0,.int .i64 0,.int .i64 0,.slice none 0 0,.slice none 0 0] 60)) (h2:w.heap[g2]? =some (.cells #[.slice none 0 0,.string ⟨#[]⟩,.int .i64 0,.int .i64 0,.int .i64 0,.slice none 0 0,.slice none 0 0,.slice none 0 0,.int .i64 0] 56)) (hb1:B≤g1) (hb2:B≤g2):
 StOwn w B (.agg #[.slice none 0 0,.slice none 0 0,.slice none 0 0,.slice none 0 0,.slice (some ⟨g1,0,none⟩) 1 1,.slice (some ⟨g2,0,none⟩) 1 1,.bool false]) lA [ndZ] [drZ] false:=by
 refine ⟨_,_,_,_,_,_,_,_,_,_,_,_,_,_,_,_,_,_,rfl,⟨[],[],[],[],⟨OwnD.nil _ _,rfl⟩,⟨OwnD.nil _ _,rfl⟩,⟨OwnD.nil _ _,rfl⟩,OwnD.nil _ _,rfl⟩,⟨[⟨ndZ,.slice none 0 0,.slice none 0 0⟩],rfl,⟨rfl,Or.inr ⟨g1,1,_,rfl,hb1,h1,Nat.le_refl _,by decide,rfl,rfl⟩⟩,fun x hx=> ?_⟩,[zDv],JQ h2 hb2,rfl⟩;obtain rfl:=List.mem_singleton.1 hx;exact ⟨⟨rfl,Or.inl ⟨rfl,rfl⟩⟩,rfl,Or.inl ⟨rfl,rfl⟩⟩
set_option maxHeartbeats 6400000 in
theorem xS {v:Value} {w:World} (h:FlsAt w v []):Calls Tryz.prog 12 #[v] w (RdR w []):=by
 obtain ⟨a,c,rfl,_,_⟩:=h;have HQ:Hid (∀ sv W,StOwn W w.heap.size sv lA [ndZ] [drZ] false→Below w.heap.size w W→RdR w [] (.returned (.tuple #[sv,.int .i64 0])) W):=fun sv W h1 h2=>⟨sv,0,rfl,⟨fun _=>⟨rfl,h1⟩,fun q=>absurd rfl q,fun q=>absurd rfl q⟩,h2⟩
 generalize RdR w []=Q at*;have HB0:Hid (Below w.heap.size w (w.alloc stZ)):=aC _ _;have HT0:Hid ((w.alloc stZ).heap[w.heap.size]? =some stZ):=World.alloc_heap_new w _;rw [List.length_nil]
 go_enter Tryz.func12,Tryz.ntmps12
 go_wp2_with (go_at_call 33;refine (pF _).mono ?_;rintro e W1 ⟨g1,g2,rfl,h1,h2,hB1,hB2,ok⟩;have HT1:Hid (W1.heap[w.heap.size]? =some stZ):=(ok.block _ (aY HT0.out)).trans HT0.out;have HS1:=aB (JW h1 h2 (Nat.le_trans HB0.out.size hB1) (Nat.le_trans HB0.out.size hB2));have HB1:=aB (aA HB0.out ok);clear h1 h2 hB1 hB2 ok HT0 HB0;have st0:=HT1.out;have hc:∀ i u,(#[Value.slice none 0 0,Value.slice none 0 0,Value.slice none 0 0,Value.slice none 0 0,Value.slice none 0 0,Value.slice none 0 0,.bool false]:Array Value)[i]? =some u→W1.cell? ⟨w.heap.size,i,none⟩=some u:=(fun i u q=>by rw [Lib.cell_of_heap st0];exact q);have hz:∀ i,W1.frozen? ⟨w.heap.size,i,none⟩=false:=(fun i=>by simp [World.frozen?,st0]);have k0:=hc 0 _ rfl;have z0:=hz 0;have k1:=hc 1 _ rfl;have z1:=hz 1;have k2:=hc 2 _ rfl;have z2:=hz 2;have k3:=hc 3 _ rfl;have z3:=hz 3;have k4:=hc 4 _ rfl;have z4:=hz 4;have k5:=hc 5 _ rfl;have z5:=hz 5;have k6:=hc 6 _ rfl;have z6:=hz 6;clear hc hz st0)
 have s7:=mT k0 k1 k2 k3 k4 k5 k6 (.slice none 0 0) (.slice none 0 0) (.slice none 0 0) (.slice none 0 0) (.slice (some ⟨g1,0,none⟩) 1 1) (.slice (some ⟨g2,0,none⟩) 1 1) (.bool false);refine bodyPost_ret (by simp [results,Tryz.results12,s7,go_sem];try rfl) rfl ?_;exact HQ.out _ _ (HS1.out.far HT1.out xQ) (bF (Nat.le_refl _) HB1.out)
set_option maxHeartbeats 6400000 in
theorem NT {fs:List Fi} {v:Value} {w:World} (h:FlsAt w v fs) (hl:772<fs.length):Calls Tryz.prog 12 #[v] w (RdR w fs):=by
 obtain ⟨a,c,rfl,_,_⟩:=h;have hne:fs≠[]:=fun e=>by rw [e] at hl;cases hl
 have HQ:Hid (∀ W,Below w.heap.size w W→RdR w fs (.returned (.tuple #[.agg #[.slice none 0 0,.slice none 0 0,.slice none 0 0,.slice none 0 0,.slice none 0 0,.slice none 0 0,.bool false],.int .i64 43])) W):=fun W h2=>⟨_,43,rfl,⟨fun q=>absurd q hne,fun _ _=>⟨rfl,rfl⟩,fun _ q=>by omega⟩,h2⟩
 generalize RdR w fs=Q at*;have HB0:Hid (Below w.heap.size w (w.alloc stZ)):=aC _ _;have h1:((fs.length:Int)==0)=false:=by rw [beq_eq_false_iff_ne];omega
 have h2:(772:Int)<(fs.length:Int):=by omega
 clear hne
 go_enter Tryz.func12,Tryz.ntmps12
 go_wp2_with fail
 refine bodyPost_ret (by simp [results,Tryz.results12,go_sem];try rfl) rfl ?_;exact HQ.out _ HB0.out
set_option maxHeartbeats 12800000 in
theorem xT {fs:List Fi} {v:Value} {w:World} (h:FlsAt w v fs) (h0:fs≠[]) (hl:fs.length≤772) (hs:∀ x ∈ fs,x.pa.size≤8796093022208) (hpr:∀ us,us.Perm fs→PrsOk w us) (he:Env w) (hf:FL w):Calls Tryz.prog 12 #[v] w (RdR w fs):=by
 have HFS:=aB h;obtain ⟨a,c,rfl,_,_⟩:=h;have HSO:Hid (∀ W,Below w.heap.size w W→Calls Tryz.prog 23 #[.func (.func 85) #[] #[.pointer (some ⟨W.heap.size,0,none⟩)]] (W.alloc (.cells #[.slice a fs.length c] 33)) fun e w'=>∃ (v:Value) (us:List Fi),e= .returned v∧(us.Perm fs∧oL us)∧w'.ownsRow W.heap.size 45 3 v us.length (us.flatMap dY)∧Below W.heap.size W w'):=fun W hb=>JL (HFS.out.below hb) (by omega)
 have HGS:Hid (∀ W v us,Below w.heap.size w W→us.Perm fs→FlsAt W v us→Calls Tryz.prog 35 #[v] W (GsR W us)):=fun W v us hb hp hfl=>JT hfl (by rw [hp.length_eq];omega) (fun x hx=>hs x (hp.mem_iff.1 hx)) ((hpr us hp).below hb) (he.below hb) (hf.below hb)
 have HFI:Hid (∀ W B us x1 x2 x3 x4 xg xt pr,Below w.heap.size w W→us.Perm fs→StOwn W B (.agg #[x1,x2,x3,x4,xg,xt,.bool pr]) (gM us) (gG us) (gT us) (gB us)→Calls Tryz.prog 8 #[.agg #[x1,x2,x3,x4,xg,xt,.bool pr]] W (TY W (dJ (gM us) (gG us) (gT us) (gB us)) (erI (gM us) (gG us) (gT us)))):=fun W B us x1 x2 x3 x4 xg xt pr hb hp hst=>by
  obtain ⟨a1,n1,c1,a2,n2,c2,a3,n3,c3,a4,n4,c4,ag,ng,cg,at_,nt,ct,e,h1,h2,ys,h3,h4⟩:=hst;simp only [Value.agg.injEq,Array.mk.injEq,List.cons.injEq,Value.bool.injEq,and_true] at e;obtain ⟨rfl,rfl,rfl,rfl,rfl,rfl,rfl⟩:=e;have hd:=h3.at;rw [h4] at hd;refine nK h1.at (Gg _) h2.at hd ?_ (Cy (JR fun x hx=>hs x (hp.mem_iff.1 hx))) (ZP _) qT (he.below hb) (hf.below hb);unfold gT;rw [iJ];unfold bW;rw [List.length_cons]
  have:=nP (us.foldl aR []) us
  have:=hp.length_eq
  omega
 have HYE:Hid (∀ us sv W,(us.Perm fs∧oL us)∧gOk us→StOwn W w.heap.size sv (gM us) (gG us) (gT us) (gB us)→Below w.heap.size w W→RdR w fs (.returned (.tuple #[sv,.int .i64 0])) W):=fun us sv W h1 h2 h3=>⟨sv,0,rfl,⟨fun q=>absurd q h0,fun _ q=>by omega,fun _ _=>⟨us,h1.1,fun _=>⟨rfl,h2⟩,fun q=>absurd h1.2 q⟩⟩,h3⟩
 have HNO:Hid (∀ us W,(us.Perm fs∧oL us)∧¬ gOk us→Below w.heap.size w W→RdR w fs (.returned (.tuple #[.agg #[.slice none 0 0,.slice none 0 0,.slice none 0 0,.slice none 0 0,.slice none 0 0,.slice none 0 0,.bool false],.int .i64 43])) W):=fun us W h1 h3=>⟨_,43,rfl,⟨fun q=>absurd q h0,fun _ q=>by omega,fun _ _=>⟨us,h1.1,fun q=>absurd q h1.2,fun _=>⟨rfl,rfl⟩⟩⟩,h3⟩
 have h1:((fs.length:Int)==0)=false:=by rw [beq_eq_false_iff_ne];have:=List.length_pos_iff.2 h0;omega
 have h2:¬ (772:Int)<(fs.length:Int):=by omega
 generalize RdR w fs=Q at*;have HB0:Hid (Below w.heap.size w (w.alloc stZ)):=aC _ _;have HT0:Hid ((w.alloc stZ).heap[w.heap.size]? =some stZ):=World.alloc_heap_new w _;clear h0 hs he hf hpr HFS
 go_enter Tryz.func12,Tryz.ntmps12
 go_upto_region 1 with fail
 generalize (w.alloc stZ)=A0 at*
 go_upto_region 6 with (first
  |(have _t:=HT1;go_at_call 23;refine (HSO.out _ HB0.out).mono ?_;rintro e W2 ⟨v2,us,rfl,hpu,ho2,ok⟩;have HPU:=aB hpu;have HF2:Hid (FlsAt W2 v2 us):=OwnFi.at ho2;obtain ⟨b2,d2,rfl⟩:=OwnFi.form ho2;have HB2:=aB (aA HB0.out ok);have HT2:Hid (W2.heap[w.heap.size]? =some stZ):=(ok.block _ (aY HT0.out)).trans HT0.out;clear hpu ho2 ok HT1)
  |(go_at_call 34;refine (JK _ _ _ _).mono ?_;rintro e W1 ⟨rfl,rfl⟩;have HT1:=HT0))
 have hul:us.length≤772:=by rw [HPU.out.1.length_eq];exact hl
 go_upto_region 7 with (go_at_call 35;refine (HGS.out _ _ _ HB2.out HPU.out.1 HF2.out).mono ?_;rintro e W3 ⟨sv,rfl,hst,ok⟩;obtain ⟨a1,n1,c1,a2,n2,c2,a3,n3,c3,a4,n4,c4,ag,ng,cg,at_,nt,ct,rfl,hr⟩:=hst;have HST:Hid (StOwn W3 W2.heap.size (.agg #[.slice a1 n1 c1,.slice a2 n2 c2,.slice a3 n3 c3,.slice a4 n4 c4,.slice ag ng cg,.slice at_ nt ct,.bool (gB us)]) (gM us) (gG us) (gT us) (gB us)):=⟨a1,n1,c1,a2,n2,c2,a3,n3,c3,a4,n4,c4,ag,ng,cg,at_,nt,ct,rfl,hr⟩;have HK3:=aB ok;clear hr ok)
 obtain ⟨U3,hU3⟩:∃ U,U=W3.alloc (.cells #[.slice a1 n1 c1,.slice a2 n2 c2,.slice a3 n3 c3,.slice a4 n4 c4,.slice ag ng cg,.slice at_ nt ct,.bool (gB us)] 32):=⟨_,rfl⟩;have HU3:Hid (Below W3.heap.size W3 U3):=by rw [hU3];exact aC _ _
 have HN3:Hid (U3.heap[W3.heap.size]? =some (.cells #[.slice a1 n1 c1,.slice a2 n2 c2,.slice a3 n3 c3,.slice a4 n4 c4,.slice ag ng cg,.slice at_ nt ct,.bool (gB us)] 32)):=by rw [hU3];exact World.alloc_heap_new W3 _
 rw [←hU3];have HS3:Hid (Below W2.heap.size W2 U3):=aA HK3.out HU3.out;have HBU:Hid (Below w.heap.size w U3):=aA HB2.out HS3.out;have HTU:Hid (U3.heap[w.heap.size]? =some stZ):=(HS3.out.block _ (aY HT2.out)).trans HT2.out;have HSU:Hid (StOwn U3 w.heap.size (.agg #[.slice a1 n1 c1,.slice a2 n2 c2,.slice a3 n3 c3,.slice a4 n4 c4,.slice ag ng cg,.slice at_ nt ct,.bool (gB us)]) (gM us) (gG us) (gT us) (gB us)):=(HST.out.below HU3.out).base HB2.out.size;have HFU:Hid (FlsAt U3 (.slice b2 us.length d2) us):=HF2.out.below HS3.out;clear hU3;obtain ⟨fi,hfi⟩:∃ l,l=dJ (gM us) (gG us) (gT us) (gB us):=⟨_,rfl⟩;obtain ⟨er,her⟩:∃ l,l=erI (gM us) (gG us) (gT us):=⟨_,rfl⟩;have HFC:=aB (HFI.out U3 _ us _ _ _ _ _ _ _ HBU.out HPU.out.1 HSU.out);rw [←hfi,←her] at HFC;have HOK:Hid (gOk us↔er=0∧fi=us):=by rw [hfi,her];exact Iff.rfl
 have q0:∀ i u,(#[Value.slice a1 n1 c1,.slice a2 n2 c2,.slice a3 n3 c3,.slice a4 n4 c4,.slice ag ng cg,.slice at_ nt ct,.bool (gB us)]:Array Value)[i]? =some u→U3.cell? ⟨W3.heap.size,i,none⟩=some u:=fun i u q=>by rw [Lib.cell_of_heap HN3.out];exact q
 have p0:=q0 0 _ rfl;have p1:=q0 1 _ rfl;have p2:=q0 2 _ rfl;have p3:=q0 3 _ rfl;have p4:=q0 4 _ rfl;have p5:=q0 5 _ rfl;have p6:=q0 6 _ rfl;clear hfi her HFI HGS HSO HB0 HT0 HT2 HB2 HST HK3 HU3 HS3 HF2 q0;generalize hpr:gB us=pr at*;have HPR:=aB hpr;clear hpr
 go_upto_region 8 with (go_at_call 8;refine HFC.out.mono ?_;rintro e W4 ⟨v4,rfl,ho4,ok⟩;have HO4:Hid (FlsAt W4 v4 fi):=ho4.at;obtain ⟨b4,d4,e4⟩:=ho4.form;obtain ⟨n9,hn9⟩:∃ n,n=fi.length:=⟨_,rfl⟩;rw [←hn9] at e4;subst e4;have HN9:=aB hn9;have HT4:Hid (W4.heap[w.heap.size]? =some stZ):=(ok.block _ (aY HTU.out)).trans HTU.out;have HN4:Hid (W4.heap[W3.heap.size]? =some (.cells #[.slice a1 n1 c1,.slice a2 n2 c2,.slice a3 n3 c3,.slice a4 n4 c4,.slice ag ng cg,.slice at_ nt ct,.bool pr] 32)):=(ok.block _ (aY HN3.out)).trans HN3.out;have HB4:=aB (aA HBU.out ok);have HS4:=aB (HSU.out.below ok);have HF4:=aB (HFU.out.below ok);clear hn9 ho4 ok p0 p1 p2 p3 p4 p5 p6)
 clear HFC HTU HN3 HBU HSU HFU
 by_cases hE:er=0
 · subst hE
   have HEQ:Hid (Calls Tryz.prog 36 #[.slice b4 n9 d4,.slice b2 us.length d2] W4 fun e w'=>e= .returned (.bool (eqB fi us))∧Below W4.heap.size W4 w'):=by
    have hfl:fi.length≤1000000000000∨1000000000000<fi.length:=by omega
    rcases hfl with q|q
    · exact NR HO4.out HF4.out q
    · have hne:n9≠us.length:=by rw [HN9.out];omega
      refine (qZ hne).mono ?_;rintro e w' ⟨rfl,hb⟩;exact ⟨NQ (bX (fun e=>by rw [e] at q;omega)).symm,hb⟩
   by_cases hq:fi=us
   · rw [aX hq] at HEQ
     have HN:Hid ((us.Perm fs∧oL us)∧gOk us):=⟨HPU.out,HOK.out.2 ⟨rfl,hq⟩⟩;clear HOK hq
     go_wp2_with (go_at_call 36;refine HEQ.out.mono ?_;rintro e V ⟨rfl,ok⟩;have HBV:=aB (aA HB4.out ok);have HTV:Hid (V.heap[w.heap.size]? =some stZ):=(ok.block _ (aY HT4.out)).trans HT4.out;have HNV:Hid (V.heap[W3.heap.size]? =some (.cells #[.slice a1 n1 c1,.slice a2 n2 c2,.slice a3 n3 c3,.slice a4 n4 c4,.slice ag ng cg,.slice at_ nt ct,.bool pr] 32)):=(ok.block _ (aY HN4.out)).trans HN4.out;have HSV:=aB (HS4.out.below ok);clear ok;have st0:=HTV.out;have hc:∀ i u,(#[Value.slice none 0 0,Value.slice none 0 0,Value.slice none 0 0,Value.slice none 0 0,Value.slice none 0 0,Value.slice none 0 0,.bool false]:Array Value)[i]? =some u→V.cell? ⟨w.heap.size,i,none⟩=some u:=(fun i u q=>by rw [Lib.cell_of_heap st0];exact q);have hz:∀ i,V.frozen? ⟨w.heap.size,i,none⟩=false:=(fun i=>by simp [World.frozen?,st0]);have k0:=hc 0 _ rfl;have z0:=hz 0;have k1:=hc 1 _ rfl;have z1:=hz 1;have k2:=hc 2 _ rfl;have z2:=hz 2;have k3:=hc 3 _ rfl;have z3:=hz 3;have k4:=hc 4 _ rfl;have z4:=hz 4;have k5:=hc 5 _ rfl;have z5:=hz 5;have k6:=hc 6 _ rfl;have z6:=hz 6;clear hc hz st0;have sn0:=HNV.out;have q0:∀ i u,(#[Value.slice a1 n1 c1,.slice a2 n2 c2,.slice a3 n3 c3,.slice a4 n4 c4,.slice ag ng cg,.slice at_ nt ct,.bool pr]:Array Value)[i]? =some u→V.cell? ⟨W3.heap.size,i,none⟩=some u:=(fun i u q=>by rw [Lib.cell_of_heap sn0];exact q);have p0:=q0 0 _ rfl;have p1:=q0 1 _ rfl;have p2:=q0 2 _ rfl;have p3:=q0 3 _ rfl;have p4:=q0 4 _ rfl;have p5:=q0 5 _ rfl;have p6:=q0 6 _ rfl;clear q0 sn0)
     have s7:=mT k0 k1 k2 k3 k4 k5 k6 (.slice a1 n1 c1) (.slice a2 n2 c2) (.slice a3 n3 c3) (.slice a4 n4 c4) (.slice ag ng cg) (.slice at_ nt ct) (.bool pr);have HR:Hid (Q (.returned (.tuple #[.agg #[.slice a1 n1 c1,.slice a2 n2 c2,.slice a3 n3 c3,.slice a4 n4 c4,.slice ag ng cg,.slice at_ nt ct,.bool pr],.int .i64 0])) ((((((((V).setCell ⟨w.heap.size,0,none⟩ (.slice a1 n1 c1)).setCell ⟨w.heap.size,1,none⟩ (.slice a2 n2 c2)).setCell ⟨w.heap.size,2,none⟩ (.slice a3 n3 c3)).setCell ⟨w.heap.size,3,none⟩ (.slice a4 n4 c4)).setCell ⟨w.heap.size,4,none⟩ (.slice ag ng cg)).setCell ⟨w.heap.size,5,none⟩ (.slice at_ nt ct)).setCell ⟨w.heap.size,6,none⟩ (.bool pr))):=HYE.out _ _ _ HN.out (by rw [HPR.out];exact HSV.out.far HTV.out xQ) (bF (Nat.le_refl _) HBV.out);refine bodyPost_ret (by simp [results,Tryz.results12,s7,go_sem];try rfl) rfl ?_;exact HR.out
   · rw [bX hq] at HEQ
     have HN:Hid ((us.Perm fs∧oL us)∧¬ gOk us):=⟨HPU.out,fun h=>hq (HOK.out.1 h).2⟩;clear HOK hq
     go_wp2_with (go_at_call 36;refine HEQ.out.mono ?_;rintro e V ⟨rfl,ok⟩;have HBV:=aB (aA HB4.out ok);have HTV:Hid (V.heap[w.heap.size]? =some stZ):=(ok.block _ (aY HT4.out)).trans HT4.out;clear ok;have st0:=HTV.out;have hc:∀ i u,(#[Value.slice none 0 0,Value.slice none 0 0,Value.slice none 0 0,Value.slice none 0 0,Value.slice none 0 0,Value.slice none 0 0,.bool false]:Array Value)[i]? =some u→V.cell? ⟨w.heap.size,i,none⟩=some u:=(fun i u q=>by rw [Lib.cell_of_heap st0];exact q);have hz:∀ i,V.frozen? ⟨w.heap.size,i,none⟩=false:=(fun i=>by simp [World.frozen?,st0]);have k0:=hc 0 _ rfl;have z0:=hz 0;have k1:=hc 1 _ rfl;have z1:=hz 1;have k2:=hc 2 _ rfl;have z2:=hz 2;have k3:=hc 3 _ rfl;have z3:=hz 3;have k4:=hc 4 _ rfl;have z4:=hz 4;have k5:=hc 5 _ rfl;have z5:=hz 5;have k6:=hc 6 _ rfl;have z6:=hz 6;clear hc hz st0)
     have s7:=mT k0 k1 k2 k3 k4 k5 k6 (.slice none 0 0) (.slice none 0 0) (.slice none 0 0) (.slice none 0 0) (.slice none 0 0) (.slice none 0 0) (.bool false);have HR:Hid (Q (.returned (.tuple #[.agg #[.slice none 0 0,.slice none 0 0,.slice none 0 0,.slice none 0 0,.slice none 0 0,.slice none 0 0,.bool false],.int .i64 43])) ((((((((V).setCell ⟨w.heap.size,0,none⟩ (.slice none 0 0)).setCell ⟨w.heap.size,1,none⟩ (.slice none 0 0)).setCell ⟨w.heap.size,2,none⟩ (.slice none 0 0)).setCell ⟨w.heap.size,3,none⟩ (.slice none 0 0)).setCell ⟨w.heap.size,4,none⟩ (.slice none 0 0)).setCell ⟨w.heap.size,5,none⟩ (.slice none 0 0)).setCell ⟨w.heap.size,6,none⟩ (.bool false))):=HNO.out _ _ HN.out (bF (Nat.le_refl _) HBV.out);refine bodyPost_ret (by simp [results,Tryz.results12,s7,go_sem];try rfl) rfl ?_;exact HR.out
 · have HN:Hid ((us.Perm fs∧oL us)∧¬ gOk us):=⟨HPU.out,fun h=>hE (HOK.out.1 h).1⟩
   obtain ⟨V,hV⟩:∃ V,V=W4:=⟨_,rfl⟩;have HBV:=HB4;have HTV:=HT4;rw [←hV] at HBV HTV ⊢;clear hV;have hc:∀ i u,(#[Value.slice none 0 0,Value.slice none 0 0,Value.slice none 0 0,Value.slice none 0 0,Value.slice none 0 0,Value.slice none 0 0,.bool false]:Array Value)[i]? =some u→V.cell? ⟨w.heap.size,i,none⟩=some u:=fun i u q=>by rw [Lib.cell_of_heap HTV.out];exact q
   have hz:∀ i,V.frozen? ⟨w.heap.size,i,none⟩=false:=fun i=>by simp [World.frozen?,HTV.out]
   have k0:=hc 0 _ rfl;have z0:=hz 0;have k1:=hc 1 _ rfl;have z1:=hz 1;have k2:=hc 2 _ rfl;have z2:=hz 2;have k3:=hc 3 _ rfl;have z3:=hz 3;have k4:=hc 4 _ rfl;have z4:=hz 4;have k5:=hc 5 _ rfl;have z5:=hz 5;have k6:=hc 6 _ rfl;have z6:=hz 6;clear hc hz;have s7:=mT k0 k1 k2 k3 k4 k5 k6 (.slice none 0 0) (.slice none 0 0) (.slice none 0 0) (.slice none 0 0) (.slice none 0 0) (.slice none 0 0) (.bool false)
   have HR:Hid (Q (.returned (.tuple #[.agg #[.slice none 0 0,.slice none 0 0,.slice none 0 0,.slice none 0 0,.slice none 0 0,.slice none 0 0,.bool false],.int .i64 43])) ((((((((V).setCell ⟨w.heap.size,0,none⟩ (.slice none 0 0)).setCell ⟨w.heap.size,1,none⟩ (.slice none 0 0)).setCell ⟨w.heap.size,2,none⟩ (.slice none 0 0)).setCell ⟨w.heap.size,3,none⟩ (.slice none 0 0)).setCell ⟨w.heap.size,4,none⟩ (.slice none 0 0)).setCell ⟨w.heap.size,5,none⟩ (.slice none 0 0)).setCell ⟨w.heap.size,6,none⟩ (.bool false))):=HNO.out _ _ HN.out (bF (Nat.le_refl _) HBV.out)
   go_wp2_with fail
   refine bodyPost_ret (by simp [results,Tryz.results12,s7,go_sem];try rfl) rfl ?_;exact HR.out
theorem UP {fs:List Fi} {v:Value} {w:World} (h:FlsAt w v fs) (hs:fs.length≤772→∀ x ∈ fs,x.pa.size≤8796093022208) (he:Env w) (hf:FL w):Calls Tryz.prog 12 #[v] w (RdR w fs):=by
 rcases Classical.em (fs=[]) with rfl|h0
 · exact xS h
 · by_cases hl:772<fs.length
   · exact NT h hl
   · exact xT h h0 (by omega) (hs (by omega)) (fun us _=>Db us he hf) he hf
end Go.Proofs.YtmnhnofnlcbliaaGreatDoor
