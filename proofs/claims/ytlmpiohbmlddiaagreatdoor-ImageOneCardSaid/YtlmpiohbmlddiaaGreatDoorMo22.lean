/- Iy5, Iy6: their declarations that are needed, laid in one text, remarks and blanks left out. -/
import Derived.Test.YtlmpiohbmlddiaaGreatDoorMo21
namespace Go.Proofs.YtlmpiohbmlddiaaGreatDoor
open Go.RowKit Go.Maps Go.WideMaps
set_option maxRecDepth 100000
structure GsQ (w:World) (N4 N6 N8:Nat) (P:Mn) (x1 x2 x3 x4:Value) (G:List Nd) (xg vt:Value) (xs:List Dv) (vm:Value) (mo:List Int) (M:List Fi) (W:World):Prop where
 st:W.heap[w.heap.size]? =some (.cells #[.slice none 0 0,.slice none 0 0,.slice none 0 0,.slice none 0 0,.slice none 0 0,.slice none 0 0,.bool false] 32)
 b4:W.heap[N4]? =some (.cells #[x1,x2,x3,x4] 24)
 b6:W.heap[N6]? =some (.cells #[xg] 27)
 b8:W.heap[N8]? =some (.cells #[vt] 30)
 mn:OwnM W w.heap.size P x1 x2 x3 x4
 gr:OwnGr W w.heap.size xg G
 tr:RowV W w.heap.size vt xs
 nd:OwnI W w.heap.size vm mo
 mp:∃ n D,W.ownsMap Tryz.prog 9 eM (w.heap.size+1) n D∧MapF D M
 below:Below w.heap.size w W
theorem GsQ.keep {w:World} {N4 N6 N8:Nat} {P:Mn} {x1 x2 x3 x4:Value} {G:List Nd} {xg vt:Value} {xs:List Dv} {vm:Value} {mo:List Int} {M:List Fi} {W W':World} (h:GsQ w N4 N6 N8 P x1 x2 x3 x4 G xg vt xs vm mo M W) (hb:Below W.heap.size W W'):GsQ w N4 N6 N8 P x1 x2 x3 x4 G xg vt xs vm mo M W':=by
 obtain ⟨n,D,h1,h2⟩:=h.mp;exact ⟨(hb.block _ (aS h.st)).trans h.st,(hb.block _ (aS h.b4)).trans h.b4,(hb.block _ (aS h.b6)).trans h.b6,(hb.block _ (aS h.b8)).trans h.b8,h.mn.below hb,h.gr.below hb,h.tr.below hb,cP h.nd hb,⟨n,D,bL h1 hb,h2⟩,aA h.below hb⟩
theorem RK {W:World} {B:Nat} {g k c:Nat} {xs:List Dv} (h:RowV W B (.slice (some ⟨g,0,none⟩) k c) xs) {N:Nat} {cs:Array Value} {t:TypeId} (hN:W.heap[N]? =some (.cells cs t)) (ht:t≠56):g≠N:=fun e=>by
 subst e
 rcases cO h.1 hN (fun _ q=>ht (Obj.cells.inj q).2.1) with q|q
 · simp [Value.ownBlock] at q
 · exact q rfl
theorem GsQ.store {w:World} {N4 N6 N8:Nat} {P:Mn} {x1 x2 x3 x4:Value} {G:List Nd} {xg:Value} {g k c:Nat} {xs:List Dv} {vm:Value} {mo:List Int} {M:List Fi} {W:World} (h:GsQ w N4 N6 N8 P x1 x2 x3 x4 G xg (.slice (some ⟨g,0,none⟩) k c) xs vm mo M W) (hk:k=xs.length) {i:Nat} (hi:i<xs.length) (n:Int):
 GsQ w N4 N6 N8 P x1 x2 x3 x4 G xg (.slice (some ⟨g,0,none⟩) k c) (xs.set i (RJ xs[i] n)) vm mo M (W.setCell ⟨g,i*9+8,none⟩ (.int .i64 n)):=by
 have hg:=kM W g (i*9+8) (.int .i64 n);have hb:∀ N (cs:Array Value) (t:TypeId),W.heap[N]? =some (Obj.cells cs t)→t≠56→(W.setCell ⟨g,i*9+8,none⟩ (.int .i64 n)).heap[N]? =some (Obj.cells cs t):=fun N cs t hN ht=>(hg.block N (aS hN) (fun e=>RK h.tr hN ht (Option.some.inj e).symm)).trans hN
 obtain ⟨n1,D,h1,h2⟩:=h.mp
 have hmg:g≠w.heap.size+1:=fun e=>by
  obtain ⟨es,clock,hbk,_⟩:=h1
  rcases h.tr.1.2 with ⟨q,_⟩|⟨g',cap,cur,q,_,hgb,_⟩
  · cases q
  · injection q with q _ _
    injection q with q
    injection q with q _ _
    subst q;rw [e] at hgb;rw [hgb] at hbk;cases hbk
 refine ⟨hb _ _ _ h.st (by decide),hb _ _ _ h.b4 (by decide),hb _ _ _ h.b6 (by decide),hb _ _ _ h.b8 (by decide),h.mn.keptV h.tr.1 hg,h.gr.keptV h.tr.1 hg,h.tr.store hk hi n,World.ownsRow.kept h.nd hg (eO h.nd h.tr.1 (by decide)),⟨n1,D,h1.kept hg (fun e=>hmg (Option.some.inj e).symm),h2⟩,h.below.grown hg h.below.size (fun j e=> ?_)⟩;obtain rfl:=Option.some.inj e;exact (World.ownsRow.lt h.tr.1 g rfl).1
theorem rX {w w':World} {N:Nat} {cs:Array Value} (hN:w.heap[N]? =some (.cells cs 32)) (hg:w.grownBy w' (some N)):∀ {B e z v n ys},w.ownsRow B e z v n ys→32≠e→w'.ownsRow B e z v n ys:=fun hr hne=>World.ownsRow.kept hr hg (cO hr hN (fun _ q=>hne (Obj.cells.inj q).2.1))
theorem OwnM.far {w w':World} {B:Nat} {P:Mn} {v1 v2 v3 v4:Value} (h:OwnM w B P v1 v2 v3 v4) {N:Nat} {cs:Array Value} (hN:w.heap[N]? =some (.cells cs 32)) (hg:w.grownBy w' (some N)):OwnM w' B P v1 v2 v3 v4:=by
 have hd:∀ {v:Value} {ps:List (Dp×Value)},OwnD w B v ps→OwnD w' B v ps:=fun hq=>⟨rX hN hg hq.1 (by decide),fun p hp=>rX hN hg (hq.2 p hp) (by decide)⟩
 obtain ⟨q1,q2,q3,q4,h1,h2,h3,h4⟩:=h;exact ⟨q1,q2,q3,q4,⟨hd h1.1,h1.2⟩,⟨hd h2.1,h2.2⟩,⟨hd h3.1,h3.2⟩,hd h4.1,h4.2⟩
theorem OwnGr.far {w w':World} {B:Nat} {v:Value} {G:List Nd} (h:OwnGr w B v G) {N:Nat} {cs:Array Value} (hN:w.heap[N]? =some (.cells cs 32)) (hg:w.grownBy w' (some N)):OwnGr w' B v G:=by
 obtain ⟨all,e,ha⟩:=h;exact ⟨all,e,rX hN hg ha.1 (by decide),fun x hx=>⟨rX hN hg (ha.2 x hx).1 (by decide),rX hN hg (ha.2 x hx).2 (by decide)⟩⟩
theorem rY {w:World} {N:Nat} {u0 u1 u2 u3 u4 u5 u6:Value}:w.grownBy (((((((w.setCell ⟨N,0,none⟩ u0).setCell ⟨N,1,none⟩ u1).setCell ⟨N,2,none⟩ u2).setCell ⟨N,3,none⟩ u3).setCell ⟨N,4,none⟩ u4).setCell ⟨N,5,none⟩ u5).setCell ⟨N,6,none⟩ u6) (some N):=
 ⟨(cY (Nat.zero_le _) (Below.refl 0 w)).os,(cY (Nat.zero_le _) (Below.refl 0 w)).tape,(cY (Nat.zero_le _) (Below.refl 0 w)).output,(cY (Nat.zero_le _) (Below.refl 0 w)).size,fun _ _ hj=>TV (fun e=>hj (by rw [e]))⟩
def StOwn (w:World) (B:Nat) (sv:Value) (P:Mn) (G:List Nd) (L:List Dr) (pr:Bool):Prop:=∃ a1 n1 c1 a2 n2 c2 a3 n3 c3 a4 n4 c4 ag ng cg at_ nt ct,sv= .agg #[.slice a1 n1 c1,.slice a2 n2 c2,.slice a3 n3 c3,.slice a4 n4 c4,.slice ag ng cg,.slice at_ nt ct,.bool pr]∧
 OwnM w B P (.slice a1 n1 c1) (.slice a2 n2 c2) (.slice a3 n3 c3) (.slice a4 n4 c4)∧OwnGr w B (.slice ag ng cg) G∧∃ ys,RowV w B (.slice at_ nt ct) ys∧ys.map Dv.d=L
theorem StOwn.below {w w':World} {B:Nat} {sv:Value} {P:Mn} {G:List Nd} {L:List Dr} {pr:Bool} (h:StOwn w B sv P G L pr) (hb:Below w.heap.size w w'):StOwn w' B sv P G L pr:=by
 obtain ⟨a1,n1,c1,a2,n2,c2,a3,n3,c3,a4,n4,c4,ag,ng,cg,at_,nt,ct,e,h1,h2,ys,h3,h4⟩:=h;exact ⟨a1,n1,c1,a2,n2,c2,a3,n3,c3,a4,n4,c4,ag,ng,cg,at_,nt,ct,e,h1.below hb,h2.below hb,ys,h3.below hb,h4⟩
theorem StOwn.base {w:World} {B C:Nat} {sv:Value} {P:Mn} {G:List Nd} {L:List Dr} {pr:Bool} (h:StOwn w B sv P G L pr) (hc:C≤B):StOwn w C sv P G L pr:=by
 obtain ⟨a1,n1,c1,a2,n2,c2,a3,n3,c3,a4,n4,c4,ag,ng,cg,at_,nt,ct,e,h1,h2,ys,h3,h4⟩:=h;exact ⟨a1,n1,c1,a2,n2,c2,a3,n3,c3,a4,n4,c4,ag,ng,cg,at_,nt,ct,e,h1.base hc,h2.base hc,ys,⟨dB h3.1 hc,fun x hx=>⟨dB (h3.2 x hx).1 hc,(h3.2 x hx).2.base hc⟩⟩,h4⟩
theorem StOwn.far {w w':World} {B:Nat} {sv:Value} {P:Mn} {G:List Nd} {L:List Dr} {pr:Bool} (h:StOwn w B sv P G L pr) {N:Nat} {cs:Array Value} (hN:w.heap[N]? =some (.cells cs 32)) (hg:w.grownBy w' (some N)):StOwn w' B sv P G L pr:=by
 obtain ⟨a1,n1,c1,a2,n2,c2,a3,n3,c3,a4,n4,c4,ag,ng,cg,at_,nt,ct,e,h1,h2,ys,h3,h4⟩:=h;exact ⟨a1,n1,c1,a2,n2,c2,a3,n3,c3,a4,n4,c4,ag,ng,cg,at_,nt,ct,e,h1.far hN hg,h2.far hN hg,ys,h3.far hN (by decide) (by decide) hg,h4⟩
noncomputable def gM (ts:List Fi):Mn:=gMn (cF (ts.foldl aY []) jA).da
noncomputable def gG (ts:List Fi):List Nd:=gGr (cF (ts.foldl aY []) fI).da
noncomputable def gT (ts:List Fi):List Dr:=jK (cD (ts.foldl aY []) ts) (eH (cD (ts.foldl aY []) ts) (gG ts))
noncomputable def gB (ts:List Fi):Bool:=(rV (ts.foldl aY []) qV).isSome
def GsR (w:World) (ts:List Fi) (e:Ending) (w':World):Prop:=∃ sv,e= .returned sv∧StOwn w' w.heap.size sv (gM ts) (gG ts) (gT ts) (gB ts)∧Below w.heap.size w w'
def PrsOk (w:World) (ts:List Fi):Prop:=(∀ W,Below w.heap.size w W→Calls Tryz.prog 87 #[.string (cF (ts.foldl aY []) jA).da] W fun e w'=>∃ a1 n1 c1 a2 n2 c2 a3 n3 c3 a4 n4 c4 er,e= .returned (.tuple #[.agg #[.slice a1 n1 c1,.slice a2 n2 c2,.slice a3 n3 c3,.slice a4 n4 c4],.int .i64 er])∧OwnM w' W.heap.size (gMn (cF (ts.foldl aY []) jA).da) (.slice a1 n1 c1) (.slice a2 n2 c2) (.slice a3 n3 c3) (.slice a4 n4 c4)∧Below W.heap.size W w')∧(∀ W,Below w.heap.size w W→Calls Tryz.prog 88 #[.string (cF (ts.foldl aY []) fI).da] W fun e w'=>∃ a n c er,e= .returned (.tuple #[.agg #[.slice a n c],.int .i64 er])∧OwnGr w' W.heap.size (.slice a n c) (gGr (cF (ts.foldl aY []) fI).da)∧Below W.heap.size W w')∧PkPr w ts
theorem PkPr.below {w w':World} {ts:List Fi} (h:PkPr w ts) (hb:Below w.heap.size w w'):PkPr w' ts:=fun x hx hs W hW t=>h x hx hs W (aA hb hW) t
theorem PrsOk.below {w w':World} {ts:List Fi} (h:PrsOk w ts) (hb:Below w.heap.size w w'):PrsOk w' ts:=⟨fun W hW=>h.1 W (aA hb hW),fun W hW=>h.2.1 W (aA hb hW),h.2.2.below hb⟩
abbrev stZ:Obj:= .cells #[.slice none 0 0,.slice none 0 0,.slice none 0 0,.slice none 0 0,.slice none 0 0,.slice none 0 0,.bool false] 32
set_option maxHeartbeats 12800000 in
theorem AM {ts:List Fi} {v:Value} {w:World} (h:FlsAt w v ts) (hz:ts.length≤100000) (hs:∀ x ∈ ts,x.pa.size≤8796093022208) (hpr:PrsOk w ts) (he:Env w) (hf:FL w):
 Calls Tryz.prog 35 #[v] w (GsR w ts):=by
 have HFL:=aB h;have HBP:Hid (∀ W,Below w.heap.size w W→Calls Tryz.prog 86 #[v] W fun e w'=>e= .returned (.map (some W.heap.size))∧(∃ n D,w'.ownsMap Tryz.prog 9 eM W.heap.size n D∧MapF D (ts.foldl aY []))∧Below W.heap.size W w'):=fun W hb=>AF (h.below hb) (by omega) (fun x hx=>by have:=hs x hx;unfold maxLen;omega)
 have HMP:Hid (∀ W,Below w.heap.size w W→Calls Tryz.prog 87 #[.string (cF (ts.foldl aY []) jA).da] W fun e w'=>∃ a1 n1 c1 a2 n2 c2 a3 n3 c3 a4 n4 c4 er,e= .returned (.tuple #[.agg #[.slice a1 n1 c1,.slice a2 n2 c2,.slice a3 n3 c3,.slice a4 n4 c4],.int .i64 er])∧OwnM w' W.heap.size (gMn (cF (ts.foldl aY []) jA).da) (.slice a1 n1 c1) (.slice a2 n2 c2) (.slice a3 n3 c3) (.slice a4 n4 c4)∧Below W.heap.size W w'):=hpr.1;have HGP:Hid (∀ W,Below w.heap.size w W→Calls Tryz.prog 88 #[.string (cF (ts.foldl aY []) fI).da] W fun e w'=>∃ a n c er,e= .returned (.tuple #[.agg #[.slice a n c],.int .i64 er])∧OwnGr w' W.heap.size (.slice a n c) (gGr (cF (ts.foldl aY []) fI).da)∧Below W.heap.size W w'):=hpr.2.1
 have HGT:Hid (∀ W mb,Below w.heap.size w W→(∃ n D,W.ownsMap Tryz.prog 9 eM mb n D∧MapF D (ts.foldl aY []))→Calls Tryz.prog 89 #[v,.map (some mb)] W (GtR W (ts.foldl aY []) ts)):=fun W mb hb ⟨n,D,h1,h2⟩=>JZ (h.below hb) hz h1 h2 (fun x hx=>⟨by have:=hs x hx;omega,RH (hs x hx)⟩) (hpr.2.2.below hb)
 have hgl:(cD (ts.foldl aY []) ts).length≤100001:=by
  unfold cD;rw [List.length_cons]
  have:=kL (ts.foldl aY []) ts
  omega
 have HMA:Hid (∀ W vt vg,Below w.heap.size w W→DirsAt W vt (cD (ts.foldl aY []) ts)→NodesAt W vg (gGr (cF (ts.foldl aY []) fI).da)→Calls Tryz.prog 63 #[.agg #[vt],.agg #[vg]] W fun e w'=>mA W (cD (ts.foldl aY []) ts) (gGr (cF (ts.foldl aY []) fI).da) e w'):=fun W vt vg hb h1 h2=>FH h1 (by omega) (AK hs) h2 (OX _) (he.below hb) (hf.below hb)
 have HLK:Hid (∀ W mb,(∃ n D,W.ownsMap Tryz.prog 9 eM mb n D∧MapF D (ts.foldl aY []))→∀ s:ByteArray,s.size≤1000→(Instr.lookup 74 (.map (some mb)) (.string s) true).run Tryz.prog W= .ok (.tuple #[.agg #[.string (cF (ts.foldl aY []) s).pa,.bool (cF (ts.foldl aY []) s).dr,.string (cF (ts.foldl aY []) s).da],.bool (rV (ts.foldl aY []) s).isSome]) W∧(Instr.lookup 74 (.map (some mb)) (.string s) false).run Tryz.prog W= .ok (.agg #[.string (cF (ts.foldl aY []) s).pa,.bool (cF (ts.foldl aY []) s).dr,.string (cF (ts.foldl aY []) s).da]) W):=fun W mb ⟨n,D,h1,h2⟩ s hs=>uQ h1 h2 s (by unfold maxLen;omega)
 have HOR:Hid (eH (cD (ts.foldl aY []) ts) (gGr (cF (ts.foldl aY []) fI).da)=[]∨(eH (cD (ts.foldl aY []) ts) (gGr (cF (ts.foldl aY []) fI).da)).length=(cD (ts.foldl aY []) ts).length):=RG _ _
 have HQ:Hid (∀ a1 n1 c1 a2 n2 c2 a3 n3 c3 a4 n4 c4 ag ng cg at_ nt ct ys W,OwnM W w.heap.size (gMn (cF (ts.foldl aY []) jA).da) (.slice a1 n1 c1) (.slice a2 n2 c2) (.slice a3 n3 c3) (.slice a4 n4 c4)→OwnGr W w.heap.size (.slice ag ng cg) (gGr (cF (ts.foldl aY []) fI).da)→RowV W w.heap.size (.slice at_ nt ct) ys→ys.map Dv.d=jK (cD (ts.foldl aY []) ts) (eH (cD (ts.foldl aY []) ts) (gGr (cF (ts.foldl aY []) fI).da))→Below w.heap.size w W→GsR w ts (.returned (.agg #[.slice a1 n1 c1,.slice a2 n2 c2,.slice a3 n3 c3,.slice a4 n4 c4,.slice ag ng cg,.slice at_ nt ct,.bool (rV (ts.foldl aY []) qV).isSome])) W):=fun a1 n1 c1 a2 n2 c2 a3 n3 c3 a4 n4 c4 ag ng cg at_ nt ct ys W h1 h2 h3 h4 h5=>⟨_,rfl,⟨a1,n1,c1,a2,n2,c2,a3,n3,c3,a4,n4,c4,ag,ng,cg,at_,nt,ct,rfl,h1,h2,ys,h3,h4⟩,h5⟩
 generalize GsR w ts=Q at*;have HL1:=aB (fun W h=>(HLK.out W (w.heap.size+1) h jA (by decide)).2);have HL2:=aB (fun W h=>(HLK.out W (w.heap.size+1) h fI (by decide)).2);have HL3:=aB (fun W h=>(HLK.out W (w.heap.size+1) h qV (by decide)).1);have hfd:=GF;obtain ⟨va,vc,rfl,_⟩:=h;have HB0:Hid (Below w.heap.size w (w.alloc stZ)):=aD _ _;have HT0:Hid ((w.alloc stZ).heap[w.heap.size]? =some stZ):=World.alloc_heap_new w _;have hsz0:(w.alloc stZ).heap.size=w.heap.size+1:=by simp
 have HS0:=aB hsz0;clear hs he hf hpr HLK hsz0 HFL;generalize ts.foldl aY []=M at*;generalize hLd:cD M ts=L at*;have HLD:=aB hLd;clear hLd;generalize cF M jA=fm at*;generalize cF M fI=fl at*;generalize cF M qV=fp at*;generalize (rV M qV).isSome=pb at*;have HMC:=aB HMP.out;have HGC:=aB HGP.out;generalize gMn fm.da=P at*;generalize gGr fl.da=G at*;generalize hmo:eH L G=mo at*;have HMO:=aB hmo;clear hmo;unfold jA at HL1;unfold fI at HL2;unfold qV at HL3;clear HMP HGP
 go_enter Tryz.func35,Tryz.ntmps35
 go_upto_region 2 with (go_at_call 86;refine (HBP.out _ HB0.out).mono ?_;rintro e W1 ⟨rfl,hm1,ok⟩;rw [HS0.out] at hm1;have HM1:=aB hm1;have HB1:=aB (aA HB0.out ok);have HT1:Hid (W1.heap[w.heap.size]? =some stZ):=(ok.block _ (aS HT0.out)).trans HT0.out;clear hm1 ok HT0 HB0)
 have hlk1:=HL1.out W1 HM1.out;clear HBP HL1
 go_upto_region 3 with (go_at_call 87;refine (HMC.out _ HB1.out).mono ?_;rintro e W2 ⟨a1,n1,c1,a2,n2,c2,a3,n3,c3,a4,n4,c4,er,rfl,hmn,ok⟩;have HMN:=aB hmn;have HK2:=aB ok;clear hmn ok)
 obtain ⟨U2,hU2⟩:∃ U,U=W2.alloc (.cells #[.slice a1 n1 c1,.slice a2 n2 c2,.slice a3 n3 c3,.slice a4 n4 c4] 24):=⟨_,rfl⟩;have HU2:Hid (Below W2.heap.size W2 U2):=by rw [hU2];exact aD _ _
 have HN2:Hid (U2.heap[W2.heap.size]? =some (.cells #[.slice a1 n1 c1,.slice a2 n2 c2,.slice a3 n3 c3,.slice a4 n4 c4] 24)):=by rw [hU2];exact World.alloc_heap_new W2 _
 rw [←hU2];clear hU2;have HBU2:Hid (Below w.heap.size w U2):=aA (aA HB1.out HK2.out) HU2.out
 have HM2:Hid (∃ n D,U2.ownsMap Tryz.prog 9 eM (w.heap.size+1) n D∧MapF D M):=by
  obtain ⟨n,D,h1,h2⟩:=HM1.out;exact ⟨n,D,bL h1 (aA HK2.out HU2.out),h2⟩
 have hlk2:=HL2.out U2 HM2.out;clear hlk1 HL2
 go_upto_region 4 with (go_at_call 88;refine (HGC.out _ HBU2.out).mono ?_;rintro e W3 ⟨ag,ng,cg,eg,rfl,hgr,ok⟩;have HGR:=aB hgr;have HK3:=aB ok;clear hgr ok)
 obtain ⟨U3,hU3⟩:∃ U,U=W3.alloc (.cells #[.slice ag ng cg] 27):=⟨_,rfl⟩;have HU3:Hid (Below W3.heap.size W3 U3):=by rw [hU3];exact aD _ _
 have HN3:Hid (U3.heap[W3.heap.size]? =some (.cells #[.slice ag ng cg] 27)):=by rw [hU3];exact World.alloc_heap_new W3 _
 rw [←hU3];clear hU3 hlk2;have HS3:Hid (Below U2.heap.size U2 U3):=aA HK3.out HU3.out;have HBU3:Hid (Below w.heap.size w U3):=aA HBU2.out HS3.out
 have HM3:Hid (∃ n D,U3.ownsMap Tryz.prog 9 eM (w.heap.size+1) n D∧MapF D M):=by
  obtain ⟨n,D,h1,h2⟩:=HM2.out;exact ⟨n,D,bL h1 HS3.out,h2⟩
 go_upto_region 5 with (go_at_call 89;refine (HGT.out _ _ HBU3.out HM3.out).mono ?_;rintro e W4 ⟨at_,nt,ct,xs,rfl,hrow,hxs,ok⟩;rw [HLD.out] at hxs;have HRW:=aB hrow;have HXS:=aB hxs;have HK4:=aB ok;clear hrow hxs ok)
 obtain ⟨U4,hU4⟩:∃ U,U=W4.alloc (.cells #[.slice at_ nt ct] 30):=⟨_,rfl⟩;have HU4:Hid (Below W4.heap.size W4 U4):=by rw [hU4];exact aD _ _
 have HN4:Hid (U4.heap[W4.heap.size]? =some (.cells #[.slice at_ nt ct] 30)):=by rw [hU4];exact World.alloc_heap_new W4 _
 rw [←hU4];clear hU4;have HS4:Hid (Below U3.heap.size U3 U4):=aA HK4.out HU4.out;have HBU4:Hid (Below w.heap.size w U4):=aA HBU3.out HS4.out;have HG4:Hid (U4.heap[W3.heap.size]? =some (.cells #[.slice ag ng cg] 27)):=(HS4.out.block _ (aS HN3.out)).trans HN3.out;have HRW4:Hid (RowV U4 w.heap.size (.slice at_ nt ct) xs):=⟨dB (cP HRW.out.1 HU4.out) HBU3.out.size,fun x hx=>⟨dB (cP (HRW.out.2 x hx).1 HU4.out) HBU3.out.size,((HRW.out.2 x hx).2.base HBU3.out.size).below HU4.out⟩⟩;have HGR4:Hid (OwnGr U4 w.heap.size (.slice ag ng cg) G):=((HGR.out.base HBU2.out.size).below HU3.out).below HS4.out
 have HDA:Hid (DirsAt U4 (.slice at_ nt ct) L):=by
  have e:=HRW4.out.at;rw [HXS.out] at e;exact e
 have g6:U4.cell? ⟨W3.heap.size,0,none⟩=some (.slice ag ng cg):=by simp [World.cell?,HG4.out]
 have t8:U4.cell? ⟨W4.heap.size,0,none⟩=some (.slice at_ nt ct):=by simp [World.cell?,HN4.out]
 go_upto_region 6 with (go_at_call 63;refine (HMA.out _ _ _ HBU4.out HDA.out HGR4.out.at).mono ?_;rintro e W5 ⟨vm,rfl,hoi,ok⟩;rw [HMO.out] at hoi;obtain ⟨am,cm,rfl,hro⟩:=uN hoi;have HOI:=aB hoi;have HK5:=aB ok;clear hoi hro ok g6 t8)
 have HG5:Hid (GsQ w W2.heap.size W3.heap.size W4.heap.size P (.slice a1 n1 c1) (.slice a2 n2 c2) (.slice a3 n3 c3) (.slice a4 n4 c4) G (.slice ag ng cg) (.slice at_ nt ct) xs (.slice am mo.length cm) mo M W5):=by
  have hb25:Below U2.heap.size U2 U4:=aA HS3.out HS4.out;obtain ⟨n,D,h1,h2⟩:=HM3.out;refine ⟨?_,?_,?_,?_,?_,HGR4.out.below HK5.out,HRW4.out.below HK5.out,dB HOI.out HBU4.out.size,⟨n,D,bL (bL h1 HS4.out) HK5.out,h2⟩,aA HBU4.out HK5.out⟩
  · have q1:=HT1.out
    have q2:=(HK2.out.block _ (aS q1)).trans q1;have q3:=(HU2.out.block _ (aS q2)).trans q2;have q4:=(hb25.block _ (aS q3)).trans q3;exact (HK5.out.block _ (aS q4)).trans q4
  · have q4:=(hb25.block _ (aS HN2.out)).trans HN2.out
    exact (HK5.out.block _ (aS q4)).trans q4
  · exact (HK5.out.block _ (aS HG4.out)).trans HG4.out
  · exact (HK5.out.block _ (aS HN4.out)).trans HN4.out
  · exact (((HMN.out.base HB1.out.size).below HU2.out).below hb25).below HK5.out
 have HNT:Hid (nt=xs.length∧(0<xs.length→∃ g,at_=some ⟨g,0,none⟩)):=by
  rcases HRW4.out.1.2 with ⟨q,hn⟩|⟨g,cap,cur,q,_⟩
  · injection q with q1 q2 _
    exact ⟨by rw [q2,hn],fun h=>by omega⟩
  · injection q with q1 q2 _
    exact ⟨q2,fun _=>⟨g,q1⟩⟩
 have HXL:Hid (mo.length≤xs.length):=by
  have e:xs.length=L.length:=by rw [←HXS.out,List.length_map]
  unfold Hid
  rcases HOR.out with q|q
  · rw [q];simp
  · omega
 have HY0:Hid (∃ ys,GsQ w W2.heap.size W3.heap.size W4.heap.size P (.slice a1 n1 c1) (.slice a2 n2 c2) (.slice a3 n3 c3) (.slice a4 n4 c4) G (.slice ag ng cg) (.slice at_ nt ct) ys (.slice am mo.length cm) mo M W5∧ys.length=xs.length∧ys.map Dv.d=jK L (mo.take 0)):=⟨xs,HG5.out,rfl,by rw [List.take_zero,OY];exact HXS.out⟩
 have hml:mo.length≤100001:=by
  have e:xs.length=L.length:=by rw [←HXS.out,List.length_map]
  have:=HXL.out
  omega
 have HLL:Hid (xs.length=L.length):=by unfold Hid;rw [←HXS.out,List.length_map]
 clear HMC HGC HGT HMA HOR HMN HK2 HU2 HN2 HBU2 HM2 HM1 HB1 HT1 HGR HK3 HU3 HN3 HS3 HBU3 HM3 HRW HK4 HU4 HN4 HS4 HBU4 HG4 HRW4 HGR4 HDA HOI HK5 HG5 HS0
 go_wp2_with fail
 go_loopw [42] (fun vi wr=>∃ k:Nat,k≤mo.length∧vi= .int .i64 k∧Hid (∃ ys,GsQ w W2.heap.size W3.heap.size W4.heap.size P (.slice a1 n1 c1) (.slice a2 n2 c2) (.slice a3 n3 c3) (.slice a4 n4 c4) G (.slice ag ng cg) (.slice at_ nt ct) ys (.slice am mo.length cm) mo M wr∧ys.length=xs.length∧ys.map Dv.d=jK L (mo.take k))) (fun vi _=>mo.length - (intOf vi).toNat)
 case atStart=>exact ⟨0,Nat.zero_le _,rfl,HY0⟩
 case round=>
  obtain ⟨k,hk,rfl,HYK⟩:=hrel;clear HY0;obtain ⟨ys,hgs,hyl,hys⟩:=HYK.out;clear HYK
  by_cases hlt:k<mo.length
  · have hki:(k:Int)<(mo.length:Int):=by omega
    have hky:k<ys.length:=by have:=HXL.out;omega
    obtain ⟨hnt,hat⟩:=HNT.out;obtain ⟨g,rfl⟩:=hat (by omega);obtain ⟨a',c',e,hro⟩:=uN hgs.nd;cases e;obtain ⟨gm,rfl,i0,_⟩:=hro k hlt;have hnk:nt=ys.length:=by omega
    have b8:wr.cell? ⟨W4.heap.size,0,none⟩=some (.slice (some ⟨g,0,none⟩) nt ct):=by simp [World.cell?,hgs.b8]
    have r0:wr.cell? ⟨g,k*9+8,none⟩=some (.int .i64 ys[k].d.nd):=by
     have h1:=hgs.tr.1;rw [hnk] at h1;rw [World.ownsRow.cellAt h1 (k*9+8) (by omega),GG ys k 8 hky (by decide)];rfl
    have r1:wr.frozen? ⟨g,k*9+8,none⟩=false:=by
     have h1:=hgs.tr.1;rw [hnk] at h1;exact World.ownsRow.frozenAt h1 _
    have hkt:(k:Int)<(nt:Int):=by omega
    have HX:Hid (∃ ys,GsQ w W2.heap.size W3.heap.size W4.heap.size P (.slice a1 n1 c1) (.slice a2 n2 c2) (.slice a3 n3 c3) (.slice a4 n4 c4) G (.slice ag ng cg) (.slice (some ⟨g,0,none⟩) nt ct) ys (.slice (some ⟨gm,0,none⟩) mo.length cm) mo M (wr.setCell ⟨g,k*9+8,none⟩ (.int .i64 mo[k]))∧ys.length=xs.length∧ys.map Dv.d=jK L (mo.take (k+1))):=by
     refine ⟨_,hgs.store hnk hky mo[k],by rw [List.length_set];exact hyl,?_⟩;have hkL:k<L.length:=by have:=HLL.out;omega
     rw [List.map_set,hys,KB hlt hkL]
     congr 1
     have hd:ys[k].d=(jK L (mo.take k))[k]'(by rw [iL];exact hkL):=by
      have:=List.getElem_of_eq hys (i:=k) (by simpa using hky)
      rw [List.getElem_map] at this;exact this
     unfold RJ;rw [hd,mM hkL]
    clear hgs hys hro HNT hat hyl;generalize ys[k].d.nd=od at*;generalize mo[k]=mk at*;have hnk2:=aB hnk;clear hnk hnt
    go_wp2_with fail
    exact ⟨⟨k+1,by omega,by go_num,HX⟩,by simp [intOf];omega⟩
  · obtain rfl:k=mo.length:=by omega
    have hki:¬ (mo.length:Int)<(mo.length:Int):=by omega
    have HG6:=aB (hgs.keep (aD wr (.cells #[.string fp.pa,.bool fp.dr,.string fp.da] 45)));have hlk3:=HL3.out wr hgs.mp;have HYS:Hid (ys.map Dv.d=jK L mo):=by have e:=hys;rw [List.take_length] at e;exact e
    obtain ⟨V,hV⟩:∃ V,V=wr.alloc (.cells #[.string fp.pa,.bool fp.dr,.string fp.da] 45):=⟨_,rfl⟩;rw [←hV] at HG6;have hc:∀ i u,(#[Value.slice none 0 0,.slice none 0 0,.slice none 0 0,.slice none 0 0,.slice none 0 0,.slice none 0 0,.bool false]:Array Value)[i]? =some u→V.cell? ⟨w.heap.size,i,none⟩=some u:=fun i u q=>by rw [Lib.cell_of_heap HG6.out.st];exact q
    have hz:∀ i,V.frozen? ⟨w.heap.size,i,none⟩=false:=fun i=>by simp [World.frozen?,HG6.out.st]
    have k0:=hc 0 _ rfl;have k1:=hc 1 _ rfl;have k2:=hc 2 _ rfl;have k3:=hc 3 _ rfl;have k4:=hc 4 _ rfl;have k5:=hc 5 _ rfl;have k6:=hc 6 _ rfl;have z0:=hz 0;have z1:=hz 1;have z2:=hz 2;have z3:=hz 3;have z4:=hz 4;have z5:=hz 5;have z6:=hz 6;have m0:V.cell? ⟨W2.heap.size,0,none⟩=some (.slice a1 n1 c1):=by rw [Lib.cell_of_heap HG6.out.b4];rfl
    have m1:V.cell? ⟨W2.heap.size,1,none⟩=some (.slice a2 n2 c2):=by rw [Lib.cell_of_heap HG6.out.b4];rfl
    have m2:V.cell? ⟨W2.heap.size,2,none⟩=some (.slice a3 n3 c3):=by rw [Lib.cell_of_heap HG6.out.b4];rfl
    have m3:V.cell? ⟨W2.heap.size,3,none⟩=some (.slice a4 n4 c4):=by rw [Lib.cell_of_heap HG6.out.b4];rfl
    have m6:V.cell? ⟨W3.heap.size,0,none⟩=some (.slice ag ng cg):=by rw [Lib.cell_of_heap HG6.out.b6];rfl
    have m8:V.cell? ⟨W4.heap.size,0,none⟩=some (.slice at_ nt ct):=by rw [Lib.cell_of_heap HG6.out.b8];rfl
    have s7:=OQ k0 k1 k2 k3 k4 k5 k6 (.slice a1 n1 c1) (.slice a2 n2 c2) (.slice a3 n3 c3) (.slice a4 n4 c4) (.slice ag ng cg) (.slice at_ nt ct) (.bool pb)
    have HR:Hid (Q (.returned (.agg #[.slice a1 n1 c1,.slice a2 n2 c2,.slice a3 n3 c3,.slice a4 n4 c4,.slice ag ng cg,.slice at_ nt ct,.bool pb])) (((((((V.setCell ⟨w.heap.size,0,none⟩ (.slice a1 n1 c1)).setCell ⟨w.heap.size,1,none⟩ (.slice a2 n2 c2)).setCell ⟨w.heap.size,2,none⟩ (.slice a3 n3 c3)).setCell ⟨w.heap.size,3,none⟩ (.slice a4 n4 c4)).setCell ⟨w.heap.size,4,none⟩ (.slice ag ng cg)).setCell ⟨w.heap.size,5,none⟩ (.slice at_ nt ct)).setCell ⟨w.heap.size,6,none⟩ (.bool pb))):=by
     exact HQ.out _ _ _ _ _ _ _ _ _ _ _ _ _ _ _ _ _ _ ys _ (HG6.out.mn.far HG6.out.st rY) (HG6.out.gr.far HG6.out.st rY) (HG6.out.tr.far HG6.out.st (by decide) (by decide) rY) HYS.out (cY (Nat.le_refl _) HG6.out.below)
    clear hgs hys hc hz HG6 HYS hyl HNT HXL HLL HXS HQ;subst hV
    go_wp2_with fail
    refine bodyPost_ret (by simp [results,Tryz.results35,s7,go_sem];try rfl) rfl ?_;exact HR.out
def rZ (x y:Fi):Bool:=decide (x.pa.toList=y.pa.toList)&&(decide (x.dr=y.dr)&&decide (x.da.toList=y.da.toList))
theorem mN {x y:Fi}:rZ x y=true↔x=y:=by
 unfold rZ;simp only [Bool.and_eq_true,decide_eq_true_eq]
 constructor
 · rintro ⟨h1,h2,h3⟩
   have e:∀ s t:ByteArray,s.toList=t.toList→s=t:=fun s t h=>by
    rw [ByteArray.toList_eq,ByteArray.toList_eq] at h;cases s;cases t;simp only [ByteArray.mk.injEq];exact Array.toList_inj.1 h
   cases x;cases y
   simp only at h1 h2 h3
   rw [e _ _ h1,h2,e _ _ h3]
 · rintro rfl
   exact ⟨rfl,rfl,rfl⟩
theorem TH (p p':ByteArray) (c c':Bool) (t t':ByteArray) (w:World):(Op.equalIn 10000 45 (.agg #[.string p,.bool c,.string t]) (.agg #[.string p',.bool c',.string t'])).run Tryz.prog w= .ok (rZ ⟨p,c,t⟩ ⟨p',c',t'⟩) w:=by
 have u3:=Tryz.underlying4;have a3:=Tryz.isAgg4;have z3:=Tryz.sizeOf4;have u9:=Tryz.underlying9;have a9:=Tryz.isAgg9;have z9:=Tryz.sizeOf9;rw [show (10000:Nat)=9999+1 from rfl,run_equalIn_agg w 9999 45 _ _ (by kernel_rfl) (by kernel_rfl)];unfold rZ;simp only [Program.fieldsOf,Tryz.underlying45]
 by_cases h1:p.toList=p'.toList
 · by_cases h2:c=c'
   · subst h2
     by_cases h3:t.toList=t'.toList
     · simp only [h1,h3,decide_true,Bool.and_true];go_simp
     · simp only [h1,h3,decide_true,decide_false,Bool.and_false];go_simp
   · simp only [h1,h2,decide_true,decide_false,Bool.and_false,Bool.false_and];go_simp
 · simp only [h1,decide_false,Bool.false_and];go_simp
theorem RQ (p p':ByteArray) (c c':Bool) (t t':ByteArray) (w:World):(binOp .neq 45 (.agg #[.string p,.bool c,.string t]) (.agg #[.string p',.bool c',.string t'])).run Tryz.prog w= .ok (.bool (!(rZ ⟨p,c,t⟩ ⟨p',c',t'⟩))) w:=by
 rw [run_neq_struct,TH];rfl
theorem DP (w:World) (a b:Nat):(w.drewN a).drewN b=w.drewN (a+b):=by
 unfold World.drewN;simp [Nat.add_assoc]
theorem gQ (w:World) (q:Nat):Below w.heap.size w (w.drewN q):=by
 induction q with
 |zero=>exact Below.refl _ _
 |succ n ih=>
  have e:w.drewN (n+1)=(w.drewN n).drew:=(DP w n 1).symm;rw [e];exact ih.drew
theorem DQ {a b:Bool} (h:a=b):Ending.returned (.bool a)= .returned (.bool b):=by rw [h]
set_option maxHeartbeats 3200000 in
theorem AN {fs gs:List Fi} {a b:Option Addr} {ca cb:Nat} {w:World} (ha:∀ i (hi:i<fs.length),∃ g o,a=some ⟨g,o,none⟩∧sT w g (o+i*3) fs[i]) (hb:∀ i (hi:i<gs.length),∃ g o,b=some ⟨g,o,none⟩∧sT w g (o+i*3) gs[i]) (hz:fs.length≤1000000000000) (he:gs.length=fs.length):
 Calls Tryz.prog 36 #[.slice a fs.length ca,.slice b fs.length cb] w fun e w'=>e= .returned (.bool (eqB fs gs))∧Below w.heap.size w w':=by
 have HA:=aB ha;have HB:=aB hb;have HE:=aB he;have HY:Hid ((∀ i (h1:i<fs.length) (h2:i<gs.length),fs[i]=gs[i])→eqB fs gs=true):=fun h=>aO (List.ext_getElem HE.out.symm h)
 have HN:Hid (∀ i (h1:i<fs.length) (h2:i<gs.length),fs[i]≠gs[i]→eqB fs gs=false):=fun i h1 h2 h=>bJ (fun e=>h (by subst e;rfl))
 clear ha hb he;generalize eqB fs gs=res at*;have hne:((fs.length:Int) != (fs.length:Int))=false:=by simp
 go_enter Tryz.func36,Tryz.ntmps36
 go_wp2_with fail
 go_loopw [13] (fun i wr=>∃ k:Nat,k≤fs.length∧i= .int .i64 k∧Hid (∀ j (h1:j<fs.length) (h2:j<gs.length),j<k→fs[j]=gs[j])∧∃ q,wr=w.drewN q) (fun i _=>fs.length - (intOf i).toNat)
 case atStart=>exact ⟨0,Nat.zero_le _,rfl,(fun j _ _ h=>absurd h (Nat.not_lt_zero _)),0,rfl⟩
 case round=>
  obtain ⟨k,hk,rfl,HAL,q,rfl⟩:=hrel
  by_cases hlt:k<fs.length
  · have hlt2:k<gs.length:=by rw [HE.out];exact hlt
    have hki:(k:Int)<(fs.length:Int):=by omega
    obtain ⟨g,o,rfl,⟨a0,a1,a2⟩,_⟩:=HA.out k hlt;obtain ⟨h,p,rfl,⟨b0,b1,b2⟩,_⟩:=HB.out k hlt2;have hnq:=RQ fs[k].pa gs[k].pa fs[k].dr gs[k].dr fs[k].da gs[k].da
    have HNX:Hid (fs[k]=gs[k]→∀ j (h1:j<fs.length) (h2:j<gs.length),j<k+1→fs[j]=gs[j]):=fun e j h1 h2 hj=>by
     rcases Nat.lt_or_ge j k with hh|hh
     · exact HAL.out j h1 h2 hh
     · obtain rfl:j=k:=by omega
       exact e
    have HNO:=aB (HN.out k hlt hlt2);clear HAL;generalize fs[k]=x at*;generalize gs[k]=y at*;clear hlt2;cases hb:rZ x y
    · have e:(!(rZ ⟨x.pa,x.dr,x.da⟩ ⟨y.pa,y.dr,y.da⟩))=true:=by rw [hb];rfl
      rw [e] at hnq;have HR:=aB (HNO.out (fun q=>by rw [mN.2 q] at hb;cases hb));clear HNX HNO e hb
      go_wp2_with fail
      go_quiet (fail)
      go_wp2
      go_ret;exact ⟨DQ HR.out.symm,by rw [DP];exact gQ _ _⟩
    · have e:(!(rZ ⟨x.pa,x.dr,x.da⟩ ⟨y.pa,y.dr,y.da⟩))=false:=by rw [hb];rfl
      rw [e] at hnq;have HR:=aB (HNX.out (mN.1 hb));clear HNX HNO e hb
      go_wp2_with fail
      go_quiet (fail)
      go_wp2
      exact ⟨⟨k+1,by omega,by go_num,HR,q+nq,rfl⟩,by simp [intOf];omega⟩
  · have hki:¬ (k:Int)<(fs.length:Int):=by omega
    have HR:Hid (res=true):=HY.out fun i h1 h2=>HAL.out i h1 h2 (by omega)
    go_wp2
    go_ret;exact ⟨DQ HR.out.symm,gQ _ _⟩
theorem mO {n n2:Nat} {ao bo:Option Addr} {ca cb:Nat} {w:World} (h:n≠n2):Calls Tryz.prog 36 #[.slice ao n ca,.slice bo n2 cb] w fun e w'=>e= .returned (.bool false)∧Below w.heap.size w w':=by
 have hne:((n:Int) != (n2:Int))=true:=bne_iff_ne.2 (by omega);clear h
 go_enter Tryz.func36,Tryz.ntmps36
 go_wp2_with fail
 go_ret;exact ⟨rfl,Below.refl _ _⟩
theorem DR {fs gs:List Fi} {u v:Value} {w:World} (ha:FlsAt w u fs) (hb:FlsAt w v gs) (hz:fs.length≤1000000000000):
 Calls Tryz.prog 36 #[u,v] w fun e w'=>e= .returned (.bool (eqB fs gs))∧Below w.heap.size w w':=by
 obtain ⟨a,ca,rfl,_,hfa⟩:=ha;obtain ⟨b,cb,rfl,_,hfb⟩:=hb
 by_cases he:gs.length=fs.length
 · rw [he]
   exact AN hfa hfb hz he
 · refine (mO (fun e=>he e.symm)).mono ?_
   rintro e w' ⟨rfl,hb⟩;exact ⟨DQ (bJ (fun e=>he (by rw [e]))).symm,hb⟩
set_option maxHeartbeats 3200000 in
theorem AO {fs gs:List Fi} {a b:Option Addr} {ca cb:Nat} {w:World} (ha:∀ i (hi:i<fs.length),∃ g o,a=some ⟨g,o,none⟩∧sT w g (o+i*3) fs[i]) (hb:∀ i (hi:i<gs.length),∃ g o,b=some ⟨g,o,none⟩∧sT w g (o+i*3) gs[i]) (hz:fs.length≤1000000000000) (he:gs.length=fs.length):
 Calls Tryz.prog 10 #[.slice a fs.length ca,.slice b fs.length cb] w fun e w'=>e= .returned (.bool (eqB fs gs))∧Below w.heap.size w w':=by
 have HA:=aB ha;have HB:=aB hb;have HE:=aB he;have HY:Hid ((∀ i (h1:i<fs.length) (h2:i<gs.length),fs[i]=gs[i])→eqB fs gs=true):=fun h=>aO (List.ext_getElem HE.out.symm h)
 have HN:Hid (∀ i (h1:i<fs.length) (h2:i<gs.length),fs[i]≠gs[i]→eqB fs gs=false):=fun i h1 h2 h=>bJ (fun e=>h (by subst e;rfl))
 clear ha hb he;generalize eqB fs gs=res at*;have hne:((fs.length:Int) != (fs.length:Int))=false:=by simp
 go_enter Tryz.func10,Tryz.ntmps10
 go_wp2_with fail
 go_loopw [5] (fun i wr=>∃ k:Nat,k≤fs.length∧i= .int .i64 k∧Hid (∀ j (h1:j<fs.length) (h2:j<gs.length),j<k→fs[j]=gs[j])∧∃ q,wr=w.drewN q) (fun i _=>fs.length - (intOf i).toNat)
 case atStart=>exact ⟨0,Nat.zero_le _,rfl,(fun j _ _ h=>absurd h (Nat.not_lt_zero _)),0,rfl⟩
 case round=>
  obtain ⟨k,hk,rfl,HAL,q,rfl⟩:=hrel
  by_cases hlt:k<fs.length
  · have hlt2:k<gs.length:=by rw [HE.out];exact hlt
    have hki:(k:Int)<(fs.length:Int):=by omega
    obtain ⟨g,o,rfl,⟨a0,a1,a2⟩,_⟩:=HA.out k hlt;obtain ⟨h,p,rfl,⟨b0,b1,b2⟩,_⟩:=HB.out k hlt2;have hnq:=RQ fs[k].pa gs[k].pa fs[k].dr gs[k].dr fs[k].da gs[k].da
    have HNX:Hid (fs[k]=gs[k]→∀ j (h1:j<fs.length) (h2:j<gs.length),j<k+1→fs[j]=gs[j]):=fun e j h1 h2 hj=>by
     rcases Nat.lt_or_ge j k with hh|hh
     · exact HAL.out j h1 h2 hh
     · obtain rfl:j=k:=by omega
       exact e
    have HNO:=aB (HN.out k hlt hlt2);clear HAL;generalize fs[k]=x at*;generalize gs[k]=y at*;clear hlt2;cases hb:rZ x y
    · have e:(!(rZ ⟨x.pa,x.dr,x.da⟩ ⟨y.pa,y.dr,y.da⟩))=true:=by rw [hb];rfl
      rw [e] at hnq;have HR:=aB (HNO.out (fun q=>by rw [mN.2 q] at hb;cases hb));clear HNX HNO e hb
      go_wp2_with fail
      go_quiet (fail)
      go_wp2
      go_ret;exact ⟨DQ HR.out.symm,by rw [DP];exact gQ _ _⟩
    · have e:(!(rZ ⟨x.pa,x.dr,x.da⟩ ⟨y.pa,y.dr,y.da⟩))=false:=by rw [hb];rfl
      rw [e] at hnq;have HR:=aB (HNX.out (mN.1 hb));clear HNX HNO e hb
      go_wp2_with fail
      go_quiet (fail)
      go_wp2
      exact ⟨⟨k+1,by omega,by go_num,HR,q+nq,rfl⟩,by simp [intOf];omega⟩
  · have hki:¬ (k:Int)<(fs.length:Int):=by omega
    have HR:Hid (res=true):=HY.out fun i h1 h2=>HAL.out i h1 h2 (by omega)
    go_wp2
    go_ret;exact ⟨DQ HR.out.symm,gQ _ _⟩
theorem wL {n n2:Nat} {ao bo:Option Addr} {ca cb:Nat} {w:World} (h:n≠n2):Calls Tryz.prog 10 #[.slice ao n ca,.slice bo n2 cb] w fun e w'=>e= .returned (.bool false)∧Below w.heap.size w w':=by
 have hne:((n:Int) != (n2:Int))=true:=bne_iff_ne.2 (by omega);clear h
 go_enter Tryz.func10,Tryz.ntmps10
 go_wp2_with fail
 go_ret;exact ⟨rfl,Below.refl _ _⟩
theorem DS {fs gs:List Fi} {u v:Value} {w:World} (ha:FlsAt w u fs) (hb:FlsAt w v gs) (hz:fs.length≤1000000000000):
 Calls Tryz.prog 10 #[u,v] w fun e w'=>e= .returned (.bool (eqB fs gs))∧Below w.heap.size w w':=by
 obtain ⟨a,ca,rfl,_,hfa⟩:=ha;obtain ⟨b,cb,rfl,_,hfb⟩:=hb
 by_cases he:gs.length=fs.length
 · rw [he]
   exact AO hfa hfb hz he
 · refine (wL (fun e=>he e.symm)).mono ?_
   rintro e w' ⟨rfl,hb⟩;exact ⟨DQ (bJ (fun e=>he (by rw [e]))).symm,hb⟩
end Go.Proofs.YtlmpiohbmlddiaaGreatDoor
