/- Iy3, Iy4: their declarations that are needed, laid in one text, remarks and blanks left out. -/
import Derived.Test.YtmnhnofnlcbliaaGreatDoorMg29
namespace Go.Proofs.YtmnhnofnlcbliaaGreatDoor
open Go.RowKit Go.Maps Go.WideMaps
set_option maxRecDepth 100000
theorem nQ (w1:World) (N k:Nat) (v:Value):w1.grownBy (w1.setCell ⟨N,k,none⟩ v) (some N):=⟨rfl,rfl,rfl,(KeepsWalks.setCell w1 ⟨N,k,none⟩ v).size,fun j _ hj=>Below.heap_setCell _ _ _ j (fun e=>hj (by rw [e]))⟩
theorem OwnV.far {w w':World} {B:Nat} {x:Dv} (h:OwnV w B x) {N:Nat} {cs:Array Value} {t:TypeId} (hN:w.heap[N]? =some (.cells cs t)) (ht:t≠9∧t≠170∧t≠210) (hg:w.grownBy w' (some N)):OwnV w' B x:=by
 have hs:∀ {B e z v n ys},w.ownsRow B e z v n ys→t≠e→w'.ownsRow B e z v n ys:=fun hr hne=>World.ownsRow.kept hr hg (dM hr hN (fun _ q=>hne (Obj.cells.inj q).2.1))
 obtain ⟨h1,q1,q2,q3,⟨d1,m1⟩,⟨d2,m2⟩,d3,m3⟩:=h;have hd:∀ {v:Value} {ps:List (Dp×Value)},OwnD w B v ps→OwnD w' B v ps:=fun hq=>⟨hs hq.1 ht.2.1,fun p hp=>hs (hq.2 p hp) ht.2.2⟩
 exact ⟨hs h1 ht.1,q1,q2,q3,⟨hd d1,m1⟩,⟨hd d2,m2⟩,hd d3,m3⟩
theorem RowV.far {w w':World} {B:Nat} {v:Value} {xs:List Dv} (h:RowV w B v xs) {N:Nat} {cs:Array Value} {t:TypeId} (hN:w.heap[N]? =some (.cells cs t)) (ht:t≠9∧t≠170∧t≠210) (ht2:t≠56) (hg:w.grownBy w' (some N)):RowV w' B v xs:=⟨World.ownsRow.kept h.1 hg (dM h.1 hN (fun _ q=>ht2 (Obj.cells.inj q).2.1)),fun x hx=>(h.2 x hx).far hN ht hg⟩
def zDv:Dv:=⟨drZ,.slice none 0 0,.slice none 0 0,.slice none 0 0,.slice none 0 0⟩
theorem JQ {w:World} {B g:Nat} (h:w.heap[g]? =some (.cells #[.slice none 0 0,.string ⟨#[]⟩,.int .i64 0,.int .i64 0,.int .i64 0,.slice none 0 0,.slice none 0 0,.slice none 0 0,.int .i64 0] 56)) (hB:B≤g):RowV w B (.slice (some ⟨g,0,none⟩) 1 1) [zDv]:=by
 refine ⟨⟨rfl,Or.inr ⟨g,1,_,rfl,hB,h,Nat.le_refl _,by decide,rfl,rfl⟩⟩,fun x hx=> ?_⟩;obtain rfl:=List.mem_singleton.1 hx;exact ⟨⟨rfl,Or.inl ⟨rfl,rfl⟩⟩,[],[],[],⟨OwnD.nil _ _,rfl⟩,⟨OwnD.nil _ _,rfl⟩,OwnD.nil _ _,rfl⟩
structure GtQ (w:World) (N5:Nat) (v:Value) (xs:List Dv) (W:World):Prop where
 box:W.heap[N5]? =some (.cells #[v] 30)
 res:W.heap[w.heap.size]? =some (.cells #[.slice none 0 0] 30)
 row:RowV W w.heap.size v xs
 below:Below w.heap.size w W
 far:w.heap.size<N5
theorem aY {W:World} {N:Nat} {o:Obj} (h:W.heap[N]? =some o):N<W.heap.size:=(Array.getElem?_eq_some_iff.1 h).1
theorem GtQ.keep {w:World} {N5:Nat} {v:Value} {xs:List Dv} {W W':World} (h:GtQ w N5 v xs W) (hb:Below W.heap.size W W'):GtQ w N5 v xs W':=
 ⟨(hb.block _ (aY h.box)).trans h.box,(hb.block _ (aY h.res)).trans h.res,h.row.below hb,aA h.below hb,h.far⟩
theorem GtQ.cell {w:World} {N5:Nat} {v:Value} {xs:List Dv} {W:World} (h:GtQ w N5 v xs W):W.cell? ⟨N5,0,none⟩=some v∧W.frozen? ⟨N5,0,none⟩=false:=by
 constructor<;>simp [World.cell?,World.frozen?,h.box]
theorem RowV.off {W:World} {B:Nat} {v:Value} {xs:List Dv} (h:RowV W B v xs) {N:Nat} {cs:Array Value} (hN:W.heap[N]? =some (.cells cs 30)):∀ g,v.ownBlock=some g→g≠N:=fun g hg e=>by
 subst e
 rcases dM h.1 hN (fun _ q=>absurd (Obj.cells.inj q).2.1 (by decide)) with q|q
 · rw [hg] at q;cases q
 · exact q hg
theorem GtQ.grown {w:World} {N5:Nat} {v:Value} {xs:List Dv} {W W1:World} (h:GtQ w N5 v xs W) {v1:Value} {ys:List Dv} (hr:RowV W1 w.heap.size v1 ys) (hg:W.grownBy W1 v.ownBlock):
 W1.heap[N5]? =some (.cells #[v] 30)∧GtQ w N5 v1 ys (W1.setCell ⟨N5,0,none⟩ v1):=by
 have hb:∀ N (cs:Array Value),W.heap[N]? =some (Obj.cells cs 30)→W1.heap[N]? =some (Obj.cells cs 30):=fun N cs hN=>(hg.block N (aY hN) (fun e=>h.row.off hN N e.symm rfl)).trans hN
 have h5:=hb _ _ h.box;have h0:=hb _ _ h.res;have hs:=nQ W1 N5 0 v1;refine ⟨h5,?_,?_,hr.far h5 (by decide) (by decide) hs,?_,h.far⟩
 · simp [World.setCell,Array.getElem?_modify,h5]
 · exact (hs.block _ (aY h0) (fun e=>by have:=Option.some.inj e;have:=h.far;omega)).trans h0
 · exact (h.below.grown hg h.below.size (fun k hk=>(World.ownsRow.lt h.row.1 k hk).1)).grown hs (Nat.le_trans h.below.size hg.size) (fun k e=>by have:=Option.some.inj e;have:=h.far;omega)
theorem Cv (w:World) (a b c d e f g:Value):(Instr.field 32 (.agg #[a,b,c,d,e,f,g]) 2).run Tryz.prog w= .ok (.agg #[f]) w:=by kernel_rfl
theorem xO {M ts:List Fi} {k:Nat} (hk:k<ts.length):bW M (ts.take (k+1))=bW M (ts.take k)++jO M ts[k]:=by
 unfold bW;rw [List.take_succ_eq_append_getElem hk,List.flatMap_append,List.flatMap_cons,List.flatMap_nil,List.append_nil,List.cons_append]
abbrev pkO (P:Pg) (a b c:Value):Obj:= .cells #[.string P.nm,.int .i64 P.a,.int .i64 P.b,.int .i64 P.c,a,b,c] 54
abbrev dvO (x:Dv):Obj:= .cells #[x.u,.string x.d.pk.nm,.int .i64 x.d.pk.a,.int .i64 x.d.pk.b,.int .i64 x.d.pk.c,x.v1,x.v2,x.v3,.int .i64 x.d.nd] 56
def PkPr (w:World) (ts:List Fi):Prop:=∀ x ∈ ts,(cI x.pa.data.toList).isSome=true→∀ W,Below w.heap.size w W→∀ t,Calls Tryz.prog 141 #[.string t] W fun e w'=>∃ a1 n1 c1 a2 n2 c2 a3 n3 c3 er,e= .returned (.tuple #[.agg #[.string (gPk t).nm,.int .i64 (gPk t).a,.int .i64 (gPk t).b,.int .i64 (gPk t).c,.slice a1 n1 c1,.slice a2 n2 c2,.slice a3 n3 c3],.int .i64 er])∧OwnP w' W.heap.size (gPk t) (.slice a1 n1 c1) (.slice a2 n2 c2) (.slice a3 n3 c3)∧Below W.heap.size W w'
def GtR (w:World) (M ts:List Fi) (e:Ending) (w':World):Prop:=∃ a n c xs,e= .returned (.agg #[.slice a n c])∧RowV w' w.heap.size (.slice a n c) xs∧xs.map Dv.d=bW M ts∧Below w.heap.size w w'
set_option maxHeartbeats 6400000 in
theorem UK {ts M:List Fi} {v:Value} {w:World} {mb n0:Nat} {D:DataW Value} (h:FlsAt w v ts) (hz:ts.length≤100000) (hm:w.ownsMap Tryz.prog 9 gO mb n0 D) (hD:MapF D M) (hs:∀ x ∈ ts,x.pa.size≤4611686018427387904∧Be x.pa.data.toList) (hpk:PkPr w ts):
 Calls Tryz.prog 89 #[v,.map (some mb)] w (GtR w M ts):=by
 obtain ⟨a,c,rfl,_,hfl⟩:=h
 have HF:Hid (∀ W,Below w.heap.size w W→∀ i (hi:i<ts.length),∃ g o,a=some ⟨g,o,none⟩∧xM W g (o+i*3) ts[i]):=fun W hb i hi=>by
  obtain ⟨g,o,e,hx⟩:=hfl i hi;exact ⟨g,o,e,xN _ _ _ _ _ hx hb⟩
 have HTP:Hid (∀ W i (hi:i<ts.length),Calls Tryz.prog 58 #[.string ts[i].pa] W fun e w'=>∃ ua un uc,e= .returned (.tuple #[.slice ua un uc,.bool (cI ts[i].pa.data.toList).isSome])∧OwnPa w' W.heap.size (.slice ua un uc) ((cI ts[i].pa.data.toList).getD [])∧Below W.heap.size W w'):=fun W i hi=>by
  obtain ⟨h1,h2⟩:=hs _ (List.getElem_mem hi);refine (LY ts[i].pa (by omega) h2 W).mono ?_;rintro e w' ⟨v,rfl,ho,hb⟩;obtain ⟨ua,uc,rfl⟩:=ho.at.sl;exact ⟨_,_,_,rfl,ho,hb⟩
 have HLK:Hid (∀ W,Below w.heap.size w W→∀ s:ByteArray,s.size≤maxLen→(Instr.lookup 74 (.map (some mb)) (.string s) false).run Tryz.prog W= .ok (.agg #[.string (cP M s).pa,.bool (cP M s).dr,.string (cP M s).da]) W):=fun W hb s hs=>(BD (bS hm hb) hD s hs).2
 have HPP:Hid (∀ k (hk:k<ts.length),(cI ts[k].pa.data.toList).isSome=true→∀ W,Below w.heap.size w W→∀ t,Calls Tryz.prog 141 #[.string t] W fun e w'=>∃ a1 n1 c1 a2 n2 c2 a3 n3 c3 er,e= .returned (.tuple #[.agg #[.string (gPk t).nm,.int .i64 (gPk t).a,.int .i64 (gPk t).b,.int .i64 (gPk t).c,.slice a1 n1 c1,.slice a2 n2 c2,.slice a3 n3 c3],.int .i64 er])∧OwnP w' W.heap.size (gPk t) (.slice a1 n1 c1) (.slice a2 n2 c2) (.slice a3 n3 c3)∧Below W.heap.size W w'):=fun k hk=>hpk _ (List.getElem_mem hk)
 have HSZ:Hid (∀ i (hi:i<ts.length),ts[i].pa.size≤4611686018427387904):=fun i hi=>(hs _ (List.getElem_mem hi)).1
 have HGD:Hid (∀ k (hk:k<ts.length),(∀ p,cI ts[k].pa.data.toList=some p→bW M (ts.take (k+1))=bW M (ts.take k)++[⟨p,gPk (cP M (ts[k].pa++fH)).da,1⟩])∧(cI ts[k].pa.data.toList=none→bW M (ts.take (k+1))=bW M (ts.take k))):=fun k hk=>⟨fun p hp=>by rw [xO hk];unfold jO;rw [hp],fun hp=>by rw [xO hk];unfold jO;rw [hp,List.append_nil]⟩
 have HGL:Hid (∀ k,(bW M (ts.take k)).length≤1+k):=fun k=>by
  unfold bW;rw [List.length_cons]
  have:=nP M (ts.take k)
  have:(ts.take k).length≤k:=by rw [List.length_take];omega
  omega
 have HEN:Hid (bW M (ts.take ts.length)=bW M ts):=by unfold Hid;rw [List.take_length]
 have HR0:Hid ((w.alloc (.cells #[.slice none 0 0] 30)).heap[w.heap.size]? =some (.cells #[.slice none 0 0] 30)):=World.alloc_heap_new w _;have HB0:Hid (Below w.heap.size w (w.alloc (.cells #[.slice none 0 0] 30))):=aC _ _;have hft:=Cv;have hfd:=QV;clear hs hm hpk hfl
 go_enter Tryz.func89,Tryz.ntmps89
 go_upto_region 2 with (go_at_call 33;refine (pF _).mono ?_;rintro e W1 ⟨g1,g2,rfl,_,hg2,_,hB2,hb1⟩;have HG0:Hid (∀ N5,N5=W1.heap.size→GtQ w N5 (.slice (some ⟨g2,0,none⟩) 1 1) [zDv] (W1.alloc (.cells #[.slice (some ⟨g2,0,none⟩) 1 1] 30))):=(fun N5 e=>by subst e;exact ⟨World.alloc_heap_new W1 _,((aC W1 _).block _ (by have:=aY HR0.out;have:=hb1.size;omega)).trans ((hb1.block _ (aY HR0.out)).trans HR0.out),(JQ hg2 (by have:=HB0.out.size;omega)).below (aC _ _),aA (aA HB0.out hb1) (aC _ _),by have:=aY HR0.out;have:=hb1.size;omega⟩);clear hg2 hB2 hb1)
 obtain ⟨N5,hN5⟩:∃ N,N=W1.heap.size:=⟨_,rfl⟩;have HG:=aB (HG0.out N5 hN5);rw [←hN5];clear HG0 HB0 HR0;generalize (W1.alloc (.cells #[.slice (some ⟨g2,0,none⟩) 1 1] 30))=W2 at*;have HGS:Hid (∃ a n c xs,GtQ w N5 (.slice a n c) xs W2∧xs.map Dv.d=bW M (ts.take 0)):=⟨_,_,_,_,HG.out,rfl⟩;clear HG hN5
 go_wp2_with fail
 go_loopw [16] (fun vi wr=>∃ k:Nat,k≤ts.length∧vi= .int .i64 k∧Hid (∃ a n c xs,GtQ w N5 (.slice a n c) xs wr∧xs.map Dv.d=bW M (ts.take k))) (fun vi _=>ts.length - (intOf vi).toNat)
 case atStart=>exact ⟨0,Nat.zero_le _,rfl,HGS⟩
 case round=>
  obtain ⟨k,hk,rfl,HGK⟩:=hrel;clear HGS;obtain ⟨ra,rn,rc,xs,hgq,hxs⟩:=HGK.out;clear HGK;have HQ0:=aB hgq;have HXS:=aB hxs
  have hxl:xs.length≤1+k:=by
   have:=HGL.out k
   rw [←hxs,List.length_map] at this;exact this
  by_cases hlt:k<ts.length
  · have hki:(k:Int)<(ts.length:Int):=by omega
    obtain ⟨g,o,rfl,⟨f0,f1,f2⟩,_⟩:=HF.out wr hgq.below k hlt;have HTC:=aB (fun W=>HTP.out W k hlt);have hsz:=HSZ.out k hlt;obtain ⟨hgy,hgn⟩:=HGD.out k hlt;have HGY:=aB hgy;have HGN:=aB hgn;have HQ1:Hid (GtQ w N5 (.slice ra rn rc) xs (wr.alloc (.cells #[.string ts[k].pa,.bool ts[k].dr,.string ts[k].da] 45))):=hgq.keep (aC _ _);have HX1:Hid ((wr.alloc (.cells #[.string ts[k].pa,.bool ts[k].dr,.string ts[k].da] 45)).cell? ⟨wr.heap.size,0,none⟩=some (.string ts[k].pa)):=by unfold Hid;rw [World.cell?_alloc_new];rfl
    have hpz:fH.size=8:=rfl;have e1:=fun W:World=>run_string_add_sum (P:=Tryz.prog) (w:=W) ts[k].pa fH (by omega)
    have HSM:Hid ((ts[k].pa++fH).size≤maxLen):=by unfold Hid maxLen;rw [bP];omega
    have HLC:=aB (fun W hb=>HLK.out W hb (ts[k].pa++fH) HSM.out);clear hgq hxs hgy hgn HTP HSZ HGD HF HSM hpz HQ0;generalize (cP M (ts[k].pa++fH))=fx at*;cases hpv:cI ts[k].pa.data.toList with
    |none=>
     rw [hpv] at HTC HGN;have HR:=aB (HGN.out rfl);clear HGY HGN HLC HPP hpv;generalize ts[k]=x at*
     go_wp2_with (go_at_call 58;refine (HTC.out _).mono ?_;rintro e V1 ⟨ua,un,uc,rfl,_,ok⟩;have HQ2:=aB (HQ1.out.keep ok);clear HQ1 ok)
     exact ⟨⟨k+1,by omega,by go_num,⟨_,_,_,_,HQ2.out,by rw [HR.out];exact HXS.out⟩⟩,by simp [intOf];omega⟩
    |some p=>
     rw [hpv] at HTC HGY;have HR:=aB (HGY.out p rfl);have HPC:=aB (fun W hb=>HPP.out k hlt (by rw [hpv];rfl) W hb fx.da);clear HGY HGN hpv HPP HLK;generalize ts[k]=x at*;generalize gPk fx.da=pk at*;unfold fH at e1
     go_wp2_with (first
      |(have _t:=HQ4;at_builtin;refine Fg (B:=w.heap.size) (v:= .slice ra rn rc) (xs:=xs) (x:=⟨⟨p,pk,1⟩,.slice ua un uc,.slice a1 n1 c1,.slice a2 n2 c2,.slice a3 n3 c3⟩) (N:=V2.heap.size+1) rfl (.tmp 38) (.tmp 42) rfl rfl HQ4.out.row HQ4.out.below.size rfl HV4.out HN4.out (by omega) ?_;intro v1 w1 hr1 hg1;obtain ⟨hb5,hq5⟩:=HQ4.out.grown hr1 hg1;have HQ5:=aB hq5;have z1:w1.cell? ⟨N5,0,none⟩=some (.slice ra rn rc):=(by simp [World.cell?,hb5]);have z2:w1.frozen? ⟨N5,0,none⟩=false:=(by simp [World.frozen?,hb5]);obtain ⟨ya,yc,ye⟩:=hr1.form;obtain ⟨yn,hyn⟩:∃ n,n=(xs++[(⟨⟨p,pk,1⟩,.slice ua un uc,.slice a1 n1 c1,.slice a2 n2 c2,.slice a3 n3 c3⟩:Dv)]).length:=⟨_,rfl⟩;rw [←hyn] at ye;subst ye;clear hyn hr1 hg1 hq5 hb5 HQ4 HV4 HN4)
      |(have _t:=HQ2;go_at_call 141;refine (HPC.out _ HQ2.out.below).mono ?_;rintro e V2 ⟨a1,n1,c1,a2,n2,c2,a3,n3,c3,er,rfl,hop,ok⟩;have HQ3:=aB (HQ2.out.keep ok);have HQ4:Hid (GtQ w N5 (.slice ra rn rc) xs ((V2.alloc (pkO pk (.slice a1 n1 c1) (.slice a2 n2 c2) (.slice a3 n3 c3))).alloc (dvO ⟨⟨p,pk,1⟩,.slice ua un uc,.slice a1 n1 c1,.slice a2 n2 c2,.slice a3 n3 c3⟩))):=(HQ3.out.keep (aC _ _)).keep (aC _ _);have HV4:Hid (OwnV ((V2.alloc (pkO pk (.slice a1 n1 c1) (.slice a2 n2 c2) (.slice a3 n3 c3))).alloc (dvO ⟨⟨p,pk,1⟩,.slice ua un uc,.slice a1 n1 c1,.slice a2 n2 c2,.slice a3 n3 c3⟩)) w.heap.size ⟨⟨p,pk,1⟩,.slice ua un uc,.slice a1 n1 c1,.slice a2 n2 c2,.slice a3 n3 c3⟩):=(⟨eB ((HPA.out.below ok).below (aA (aC _ _) (aC _ _))) HQ1s.out,(hop.base HQ2.out.below.size).below (aA (aC _ _) (aC _ _))⟩);have HN4:Hid (∀ j u,(qX ⟨⟨p,pk,1⟩,.slice ua un uc,.slice a1 n1 c1,.slice a2 n2 c2,.slice a3 n3 c3⟩)[j]? =some u→((V2.alloc (pkO pk (.slice a1 n1 c1) (.slice a2 n2 c2) (.slice a3 n3 c3))).alloc (dvO ⟨⟨p,pk,1⟩,.slice ua un uc,.slice a1 n1 c1,.slice a2 n2 c2,.slice a3 n3 c3⟩)).cell? ((⟨V2.heap.size+1,0,none⟩:Addr).add j)=some u):=(by have e:=DS (V2.alloc (pkO pk (.slice a1 n1 c1) (.slice a2 n2 c2) (.slice a3 n3 c3))) #[.slice ua un uc,.string pk.nm,.int .i64 pk.a,.int .i64 pk.b,.int .i64 pk.c,.slice a1 n1 c1,.slice a2 n2 c2,.slice a3 n3 c3,.int .i64 1] 56;rw [World.size_alloc] at e;exact e);obtain ⟨b0,b1⟩:=HQ3.out.cell;obtain ⟨c0,d0⟩:=(HQ3.out.keep (aC V2 (pkO pk (.slice a1 n1 c1) (.slice a2 n2 c2) (.slice a3 n3 c3)))).cell;obtain ⟨e0,e9⟩:=HQ4.out.cell;clear HQ2 HQ3 HPA ok hop hlk)
      |(have _t:=HQ1;go_at_call 58;refine (HTC.out _).mono ?_;rintro e V1 ⟨ua,un,uc,rfl,hpa,ok⟩;have HQ2:=aB (HQ1.out.keep ok);have HPA:Hid (OwnPa V1 _ (.slice ua un uc) p):=hpa;have HQ1s:=aB HQ1.out.below.size;have x1:V1.cell? ⟨wr.heap.size,0,none⟩=some (.string x.pa):=(ok.cell (p:=⟨wr.heap.size,0,none⟩) (by simp)).trans HX1.out;have hlk:=HLC.out V1 HQ2.out.below;unfold fH at hlk;clear HQ1 ok hpa))
     exact ⟨⟨k+1,by omega,by go_num,⟨_,_,_,_,HQ5.out,by rw [HR.out,List.map_append,HXS.out];rfl⟩⟩,by simp [intOf];omega⟩
  · obtain rfl:k=ts.length:=by omega
    have hki:¬ (ts.length:Int)<(ts.length:Int):=by omega
    obtain ⟨b0,b1⟩:=hgq.cell;have r0:wr.cell? ⟨w.heap.size,0,none⟩=some (.slice none 0 0):=by simp [World.cell?,hgq.res]
    have r1:wr.frozen? ⟨w.heap.size,0,none⟩=false:=by simp [World.frozen?,hgq.res]
    have HR:Hid (RowV (wr.setCell ⟨w.heap.size,0,none⟩ (.slice ra rn rc)) w.heap.size (.slice ra rn rc) xs∧xs.map Dv.d=bW M ts∧Below w.heap.size w (wr.setCell ⟨w.heap.size,0,none⟩ (.slice ra rn rc))∧(wr.setCell ⟨w.heap.size,0,none⟩ (.slice ra rn rc)).cell? ⟨w.heap.size,0,none⟩=some (.slice ra rn rc)):=⟨hgq.row.far hgq.res (by decide) (by decide) (nQ _ _ _ _),by rw [←HEN.out];exact hxs,hgq.below.grown (nQ _ _ _ _) hgq.below.size (fun j e=>by cases e;exact Nat.le_refl _),by simp [World.setCell,World.cell?,Array.getElem?_modify,hgq.res]⟩;have s0:=HR.out.2.2.2;clear hgq hxs HQ0 HXS HTP HSZ HGD HF HLK HPP
    go_wp2_with fail
    refine bodyPost_ret (by simp [results,Tryz.results89,s0,go_sem];try rfl) rfl ?_;exact ⟨_,_,_,xs,rfl,HR.out.1,HR.out.2.1,HR.out.2.2.1⟩
theorem yR {t:ByteArray} (h:jV t=0):aU (oB t)=true:=by
 unfold jV at h;unfold oB
 split at h
 · split at h
   · split at h
     · assumption
     · cases h
   · contradiction
 · contradiction
theorem yS {t:ByteArray} (h:jL t=0):aN (qS t)=true:=by
 unfold jL at h;unfold qS
 split at h
 · split at h
   · split at h
     · assumption
     · cases h
   · contradiction
 · contradiction
theorem jN {L:List Dp} (h:bV L=true):L.length≤16:=by
 unfold bV at h;rw [Bool.and_eq_true,decide_eq_true_eq] at h;exact h.1
theorem UL {P:Pg} (h:aU P=true):PgZ P:=by
 unfold aU gV at h;simp only [Bool.and_eq_true] at h;have h1:=jN h.1.1.2.1;have h2:=jN h.1.1.2.2.1;have h3:=jN h.1.1.2.2.2;exact ⟨by omega,by omega,by omega⟩
theorem Gf (t:ByteArray):PgZ (gPk t):=by
 unfold gPk
 split
 · rename_i h
   exact UL (yR h)
 · exact ⟨by decide,by decide,by decide⟩
noncomputable def gMn (t:ByteArray):Mn:=if jL t=0 then qS t else lA
theorem Gg (t:ByteArray):(gMn t).d.length≤9223372036854775807∧(gMn t).v.length≤9223372036854775807∧(gMn t).o.length≤9223372036854775807∧(gMn t).p.length≤9223372036854775807:=by
 unfold gMn
 split
 · rename_i h
   have hw:=yS h;unfold aN gI at hw;simp only [Bool.and_eq_true] at hw;have h1:=jN hw.1.1.1;have h2:=jN hw.1.1.2.1;have h3:=jN hw.1.1.2.2.1;have h4:=jN hw.1.1.2.2.2;exact ⟨by omega,by omega,by omega,by omega⟩
 · exact ⟨by decide,by decide,by decide,by decide⟩
theorem UM (t:ByteArray) {w:World} (he:Env w) (hf:FL w):Calls Tryz.prog 87 #[.string t] w fun e w'=>∃ a1 n1 c1 a2 n2 c2 a3 n3 c3 a4 n4 c4 er,e= .returned (.tuple #[.agg #[.slice a1 n1 c1,.slice a2 n2 c2,.slice a3 n3 c3,.slice a4 n4 c4],.int .i64 er])∧OwnM w' w.heap.size (gMn t) (.slice a1 n1 c1) (.slice a2 n2 c2) (.slice a3 n3 c3) (.slice a4 n4 c4)∧Below w.heap.size w w':=by
 refine (YV t he hf).mono ?_;rintro e w' ⟨v1,v2,v3,v4,rfl,hb,h0,h1⟩
 have ho:OwnM w' w.heap.size (gMn t) v1 v2 v3 v4:=by
  unfold gMn
  by_cases q:jL t=0
  · rw [if_pos q]
    exact h0 q
  · obtain ⟨rfl,rfl,rfl,rfl⟩:=h1 q
    rw [if_neg q];exact ⟨[],[],[],[],⟨OwnD.nil _ _,rfl⟩,⟨OwnD.nil _ _,rfl⟩,⟨OwnD.nil _ _,rfl⟩,OwnD.nil _ _,rfl⟩
 have hp:=ho.at;obtain ⟨a1,c1,rfl⟩:=hp.1.sl;obtain ⟨a2,c2,rfl⟩:=hp.2.1.sl;obtain ⟨a3,c3,rfl⟩:=hp.2.2.1.sl;obtain ⟨a4,c4,rfl⟩:=hp.2.2.2.sl;exact ⟨_,_,_,_,_,_,_,_,_,_,_,_,_,rfl,ho,hb⟩
def gGr (t:ByteArray):List Nd:=(Lo.lX t).getD []
theorem ZP (t:ByteArray):CJ (gGr t):=by
 unfold gGr;cases h:Lo.lX t with
 |none=>exact ⟨by simp,fun n hn=>by cases hn⟩
 |some G=>
  have hm:=(Lo.ZB h).1;show CJ G;cases G with
  |nil=>cases hm
  |cons n r=>
   unfold Lo.eO at hm;simp only [Bool.and_eq_true,decide_eq_true_eq] at hm;refine ⟨by rw [List.length_cons];omega,fun m hmem=> ?_⟩
   have:=List.all_eq_true.1 hm.2 m hmem
   unfold Lo.dE at this;rw [Bool.and_eq_true,decide_eq_true_eq] at this;omega
def OwnGr (w:World) (B:Nat) (v:Value) (G:List Nd):Prop:=∃ all:List Lo.NV,all.map Lo.NV.nd=G∧Lo.RA w B v all
theorem OwnGr.at {w:World} {B:Nat} {v:Value} {G:List Nd} (h:OwnGr w B v G):NodesAt w v G:=by
 obtain ⟨all,rfl,hr⟩:=h;exact hr.at
theorem OwnGr.below {w w':World} {B:Nat} {v:Value} {G:List Nd} (h:OwnGr w B v G) (hb:Below w.heap.size w w'):OwnGr w' B v G:=by
 obtain ⟨all,e,hr⟩:=h;exact ⟨all,e,dN hr.1 hb,fun x hx=>⟨dN (hr.2 x hx).1 hb,dN (hr.2 x hx).2 hb⟩⟩
theorem OwnGr.base {w:World} {B C:Nat} {v:Value} {G:List Nd} (h:OwnGr w B v G) (hc:C≤B):OwnGr w C v G:=by
 obtain ⟨all,e,hr⟩:=h;exact ⟨all,e,eB hr.1 hc,fun x hx=>⟨eB (hr.2 x hx).1 hc,eB (hr.2 x hx).2 hc⟩⟩
theorem OwnGr.keptV {w w':World} {B B':Nat} {v v':Value} {G:List Nd} {n':Nat} {ys:List Value} (h:OwnGr w B v G) (hr:w.ownsRow B' 56 9 v' n' ys) (hg:w.grownBy w' v'.ownBlock):OwnGr w' B v G:=by
 obtain ⟨all,e,ha⟩:=h;exact ⟨all,e,World.ownsRow.kept ha.1 hg (cA ha.1 hr (by decide)),fun x hx=>⟨World.ownsRow.kept (ha.2 x hx).1 hg (cA (ha.2 x hx).1 hr (by decide)),World.ownsRow.kept (ha.2 x hx).2 hg (cA (ha.2 x hx).2 hr (by decide))⟩⟩
theorem OwnM.keptV {w w':World} {B B':Nat} {P:Mn} {v1 v2 v3 v4 v':Value} {n':Nat} {ys:List Value} (h:OwnM w B P v1 v2 v3 v4) (hr:w.ownsRow B' 56 9 v' n' ys) (hg:w.grownBy w' v'.ownBlock):OwnM w' B P v1 v2 v3 v4:=by
 obtain ⟨q1,q2,q3,q4,h1,h2,h3,h4⟩:=h;exact ⟨q1,q2,q3,q4,⟨h1.1.keptV hr hg,h1.2⟩,⟨h2.1.keptV hr hg,h2.2⟩,⟨h3.1.keptV hr hg,h3.2⟩,h4.1.keptV hr hg,h4.2⟩
theorem UN (t:ByteArray) {w:World} (he:Env w):Calls Tryz.prog 88 #[.string t] w fun e w'=>∃ a n c er,e= .returned (.tuple #[.agg #[.slice a n c],.int .i64 er])∧OwnGr w' w.heap.size (.slice a n c) (gGr t)∧Below w.heap.size w w':=by
 refine (Lo.NH t w he).mono ?_;rintro e w' ⟨hb,⟨ad,cap,all,h1,rfl,h2⟩|⟨h1,rfl⟩⟩
 · exact ⟨_,_,_,_,rfl,⟨all,by unfold gGr;rw [h1];rfl,h2⟩,hb⟩
 · exact ⟨_,_,_,_,rfl,⟨[],by unfold gGr;rw [h1];rfl,⟨rfl,Or.inl ⟨rfl,rfl⟩⟩,fun x hx=>by cases hx⟩,hb⟩
def mC (L:List Dr) (m:List Int):List Dr:=L.mapIdx fun i d=>⟨d.pa,d.pk,(m[i]?).getD d.nd⟩
theorem iJ (L:List Dr) (m:List Int):(mC L m).length=L.length:=by unfold mC;rw [List.length_mapIdx]
theorem mV {L:List Dr} {m:List Int} {i:Nat} (hi:i<L.length) (h:i<(mC L m).length):(mC L m)[i]=⟨L[i].pa,L[i].pk,(m[i]?).getD L[i].nd⟩:=by simp only [mC,List.getElem_mapIdx]
theorem ZQ (L:List Dr):mC L []=L:=by
 unfold mC;refine List.ext_getElem (by rw [List.length_mapIdx]) fun i h1 h2=> ?_
 rw [List.getElem_mapIdx];rfl
theorem UO {L:List Dr} {m:List Int} {k:Nat} (hk:k<m.length) (hl:k<L.length):mC L (m.take (k+1))=(mC L (m.take k)).set k ⟨L[k].pa,L[k].pk,m[k]⟩:=by
 refine List.ext_getElem (by rw [List.length_set,iJ,iJ]) fun i h1 h2=> ?_
 rw [iJ] at h1;rw [List.getElem_set,mV h1,mV h1]
 split
 · rename_i e
   subst e;rw [List.getElem?_take_of_lt (by omega),List.getElem?_eq_getElem hk];rfl
 · rename_i e
   by_cases hi:i<k
   · rw [List.getElem?_take_of_lt (by omega),List.getElem?_take_of_lt hi]
   · rw [List.getElem?_take_eq_none (by omega),List.getElem?_take_eq_none (by omega)]
theorem Cw (L:List Dr) (G:List Nd):fV L G=[]∨(fV L G).length=L.length:=by
 unfold fV
 split
 · rename_i hh
   cases hm:iN L G with
   |none=>exact Or.inl rfl
   |some m=>exact Or.inr (AX (cZ.1 hh.1).1.1 hh.2 hm).1
 · exact Or.inl rfl
theorem Cx {t:ByteArray} (h:t.size≤8796093022208):Be t.data.toList:=fun L r hn e=>by
 have h1:=kR hn;have h2:=congrArg List.length e;rw [List.length_append] at h2;have h3:t.data.toList.length=t.size:=by rw [Array.length_toList];rfl
 omega
theorem NO {t:ByteArray} {p:List ByteArray} (h:cI t.data.toList=some p) (hz:t.size≤8796093022208):p.length*16≤140737488355328:=by
 have he:=oM h
 by_cases h0:p=[]
 · rw [h0];decide
 · by_cases hn:aT p=true
   · have h1:=kR hn
     rw [gX h0 hn] at he;have h2:=dQ p;rw [he] at h2;omega
   · unfold aH at he
     rw [if_neg h0,if_neg hn] at he;rw [←he] at h;cases h
theorem JR {M ts:List Fi} (hs:∀ x ∈ ts,x.pa.size≤8796093022208):qB (bW M ts):=by
 have hone:∀ d ∈ bW M ts,d.pa.length*16≤140737488355328∧PgZ d.pk:=fun d hd=>by
  unfold bW at hd
  rcases List.mem_cons.1 hd with rfl|hd
  · exact ⟨by decide,by decide,by decide,by decide⟩
  · obtain ⟨x,hx,hd⟩:=List.mem_flatMap.1 hd
    unfold jO at hd
    split at hd
    · rename_i p hp
      rw [List.mem_singleton.1 hd];exact ⟨NO hp (hs x hx),Gf _⟩
    · cases hd
 exact ⟨fun d hd=>(hone d hd).1,fun d hd=>(hone d hd).2⟩
theorem Cy {L:List Dr} {m:List Int} (h:qB L):qB (mC L m):=by
 have hone:∀ d ∈ mC L m,d.pa.length*16≤140737488355328∧PgZ d.pk:=fun d hd=>by
  obtain ⟨i,hi,rfl⟩:=List.getElem_of_mem hd;have hi2:=hi;rw [iJ] at hi2;rw [mV hi2];exact ⟨h.1 L[i] (List.getElem_mem hi2),h.2 L[i] (List.getElem_mem hi2)⟩
 exact ⟨fun d hd=>(hone d hd).1,fun d hd=>(hone d hd).2⟩
def Cz (x:Dv) (n:Int):Dv:=⟨⟨x.d.pa,x.d.pk,n⟩,x.u,x.v1,x.v2,x.v3⟩
theorem JS (n:Int):∀ (xs:List Dv) (i:Nat) (hi:i<xs.length),(xs.flatMap qX).set (i*9+8) (.int .i64 n)=(xs.set i (Cz xs[i] n)).flatMap qX
 |[],i,hi=>by cases hi
 |x::xs,0,_=>rfl
 |x::xs,i+1,hi=>by
  rw [List.flatMap_cons,List.set_append_right _ _ (by rw [JO];omega),List.set_cons_succ,List.flatMap_cons,JO,show (i+1)*9+8 - 9=i*9+8 by omega,JS n xs i (by simpa using hi)];rfl
theorem RowV.store {w:World} {B g c:Nat} {xs:List Dv} {k:Nat} (h:RowV w B (.slice (some ⟨g,0,none⟩) k c) xs) (hk:k=xs.length) {i:Nat} (hi:i<xs.length) (n:Int):
 RowV (w.setCell ⟨g,i*9+8,none⟩ (.int .i64 n)) B (.slice (some ⟨g,0,none⟩) k c) (xs.set i (Cz xs[i] n)):=by
 subst hk;obtain ⟨h1,h2⟩:=h.1.stored (i*9+8) (.int .i64 n);rw [JS n xs i hi] at h1;refine ⟨by rw [List.length_set];exact h1,fun x hx=> ?_⟩;have hold:∀ y ∈ xs,OwnV (w.setCell ⟨g,i*9+8,none⟩ (.int .i64 n)) B y:=fun y hy=>(h.2 y hy).kept h.1 h2
 rcases List.mem_or_eq_of_mem_set hx with hx|rfl
 · exact hold x hx
 · have:=hold _ (List.getElem_mem hi)
   exact ⟨this.1,this.2⟩
end Go.Proofs.YtmnhnofnlcbliaaGreatDoor
