/- Iy3, Mf4, Mf7, Lo3, Lo4, Lo5: their declarations that are needed, laid in one text, remarks and blanks left out. -/
import Derived.Test.YtlmpiohbmlddiaaGreatDoorMg24
namespace Go.Proofs.YtlmpiohbmlddiaaGreatDoor
open Go.RowKit Go.Maps Go.WideMaps
set_option maxRecDepth 100000
theorem kN (w1:World) (N k:Nat) (v:Value):w1.grownBy (w1.setCell ⟨N,k,none⟩ v) (some N):=⟨rfl,rfl,rfl,(KeepsWalks.setCell w1 ⟨N,k,none⟩ v).size,fun j _ hj=>Below.heap_setCell _ _ _ j (fun e=>hj (by rw [e]))⟩
theorem OwnV.far {w w':World} {B:Nat} {x:Dv} (h:OwnV w B x) {N:Nat} {cs:Array Value} {t:TypeId} (hN:w.heap[N]? =some (.cells cs t)) (ht:t≠9∧t≠170∧t≠210) (hg:w.grownBy w' (some N)):OwnV w' B x:=by
 have hs:∀ {B e z v n ys},w.ownsRow B e z v n ys→t≠e→w'.ownsRow B e z v n ys:=fun hr hne=>World.ownsRow.kept hr hg (dC hr hN (fun _ q=>hne (Obj.cells.inj q).2.1))
 obtain ⟨h1,q1,q2,q3,⟨d1,m1⟩,⟨d2,m2⟩,d3,m3⟩:=h;have hd:∀ {v:Value} {ps:List (Dp×Value)},OwnD w B v ps→OwnD w' B v ps:=fun hq=>⟨hs hq.1 ht.2.1,fun p hp=>hs (hq.2 p hp) ht.2.2⟩
 exact ⟨hs h1 ht.1,q1,q2,q3,⟨hd d1,m1⟩,⟨hd d2,m2⟩,hd d3,m3⟩
theorem RowV.far {w w':World} {B:Nat} {v:Value} {xs:List Dv} (h:RowV w B v xs) {N:Nat} {cs:Array Value} {t:TypeId} (hN:w.heap[N]? =some (.cells cs t)) (ht:t≠9∧t≠170∧t≠210) (ht2:t≠56) (hg:w.grownBy w' (some N)):RowV w' B v xs:=⟨World.ownsRow.kept h.1 hg (dC h.1 hN (fun _ q=>ht2 (Obj.cells.inj q).2.1)),fun x hx=>(h.2 x hx).far hN ht hg⟩
def zDv:Dv:=⟨drZ,.slice none 0 0,.slice none 0 0,.slice none 0 0,.slice none 0 0⟩
theorem zK {w:World} {B g:Nat} (h:w.heap[g]? =some (.cells #[.slice none 0 0,.string ⟨#[]⟩,.int .i64 0,.int .i64 0,.int .i64 0,.slice none 0 0,.slice none 0 0,.slice none 0 0,.int .i64 0] 56)) (hB:B≤g):RowV w B (.slice (some ⟨g,0,none⟩) 1 1) [zDv]:=by
 refine ⟨⟨rfl,Or.inr ⟨g,1,_,rfl,hB,h,Nat.le_refl _,by decide,rfl,rfl⟩⟩,fun x hx=> ?_⟩;obtain rfl:=List.mem_singleton.1 hx;exact ⟨⟨rfl,Or.inl ⟨rfl,rfl⟩⟩,[],[],[],⟨OwnD.nil _ _,rfl⟩,⟨OwnD.nil _ _,rfl⟩,OwnD.nil _ _,rfl⟩
structure GtQ (w:World) (N5:Nat) (v:Value) (xs:List Dv) (W:World):Prop where
 box:W.heap[N5]? =some (.cells #[v] 30)
 res:W.heap[w.heap.size]? =some (.cells #[.slice none 0 0] 30)
 row:RowV W w.heap.size v xs
 below:Below w.heap.size w W
 far:w.heap.size<N5
theorem bD {W:World} {N:Nat} {o:Obj} (h:W.heap[N]? =some o):N<W.heap.size:=(Array.getElem?_eq_some_iff.1 h).1
theorem GtQ.keep {w:World} {N5:Nat} {v:Value} {xs:List Dv} {W W':World} (h:GtQ w N5 v xs W) (hb:Below W.heap.size W W'):GtQ w N5 v xs W':=
 ⟨(hb.block _ (bD h.box)).trans h.box,(hb.block _ (bD h.res)).trans h.res,h.row.below hb,aB h.below hb,h.far⟩
theorem GtQ.cell {w:World} {N5:Nat} {v:Value} {xs:List Dv} {W:World} (h:GtQ w N5 v xs W):W.cell? ⟨N5,0,none⟩=some v∧W.frozen? ⟨N5,0,none⟩=false:=by
 constructor<;>simp [World.cell?,World.frozen?,h.box]
theorem RowV.off {W:World} {B:Nat} {v:Value} {xs:List Dv} (h:RowV W B v xs) {N:Nat} {cs:Array Value} (hN:W.heap[N]? =some (.cells cs 30)):∀ g,v.ownBlock=some g→g≠N:=fun g hg e=>by
 subst e
 rcases dC h.1 hN (fun _ q=>absurd (Obj.cells.inj q).2.1 (by decide)) with q|q
 · rw [hg] at q;cases q
 · exact q hg
theorem GtQ.grown {w:World} {N5:Nat} {v:Value} {xs:List Dv} {W W1:World} (h:GtQ w N5 v xs W) {v1:Value} {ys:List Dv} (hr:RowV W1 w.heap.size v1 ys) (hg:W.grownBy W1 v.ownBlock):
 W1.heap[N5]? =some (.cells #[v] 30)∧GtQ w N5 v1 ys (W1.setCell ⟨N5,0,none⟩ v1):=by
 have hb:∀ N (cs:Array Value),W.heap[N]? =some (Obj.cells cs 30)→W1.heap[N]? =some (Obj.cells cs 30):=fun N cs hN=>(hg.block N (bD hN) (fun e=>h.row.off hN N e.symm rfl)).trans hN
 have h5:=hb _ _ h.box;have h0:=hb _ _ h.res;have hs:=kN W1 N5 0 v1;refine ⟨h5,?_,?_,hr.far h5 (by decide) (by decide) hs,?_,h.far⟩
 · simp [World.setCell,Array.getElem?_modify,h5]
 · exact (hs.block _ (bD h0) (fun e=>by have:=Option.some.inj e;have:=h.far;omega)).trans h0
 · exact (h.below.grown hg h.below.size (fun k hk=>(World.ownsRow.lt h.row.1 k hk).1)).grown hs (Nat.le_trans h.below.size hg.size) (fun k e=>by have:=Option.some.inj e;have:=h.far;omega)
theorem RB (w:World) (a b c d e f g:Value):(Instr.field 32 (.agg #[a,b,c,d,e,f,g]) 2).run Tryz.prog w= .ok (.agg #[f]) w:=by kernel_rfl
theorem rO {M ts:List Fi} {k:Nat} (hk:k<ts.length):cR M (ts.take (k+1))=cR M (ts.take k)++zJ M ts[k]:=by
 unfold cR;rw [List.take_succ_eq_append_getElem hk,List.flatMap_append,List.flatMap_cons,List.flatMap_nil,List.append_nil,List.cons_append]
abbrev pkO (P:Pg) (a b c:Value):Obj:= .cells #[.string P.nm,.int .i64 P.a,.int .i64 P.b,.int .i64 P.c,a,b,c] 54
abbrev dvO (x:Dv):Obj:= .cells #[x.u,.string x.d.pk.nm,.int .i64 x.d.pk.a,.int .i64 x.d.pk.b,.int .i64 x.d.pk.c,x.v1,x.v2,x.v3,.int .i64 x.d.nd] 56
def PkPr (w:World) (ts:List Fi):Prop:=∀ x ∈ ts,(cH x.pa.data.toList).isSome=true→∀ W,Below w.heap.size w W→∀ t,Calls Tryz.prog 141 #[.string t] W fun e w'=>∃ a1 n1 c1 a2 n2 c2 a3 n3 c3 er,e= .returned (.tuple #[.agg #[.string (gPk t).nm,.int .i64 (gPk t).a,.int .i64 (gPk t).b,.int .i64 (gPk t).c,.slice a1 n1 c1,.slice a2 n2 c2,.slice a3 n3 c3],.int .i64 er])∧OwnP w' W.heap.size (gPk t) (.slice a1 n1 c1) (.slice a2 n2 c2) (.slice a3 n3 c3)∧Below W.heap.size W w'
def GtR (w:World) (M ts:List Fi) (e:Ending) (w':World):Prop:=∃ a n c xs,e= .returned (.agg #[.slice a n c])∧RowV w' w.heap.size (.slice a n c) xs∧xs.map Dv.d=cR M ts∧Below w.heap.size w w'
set_option maxHeartbeats 6400000 in
theorem KD {ts M:List Fi} {v:Value} {w:World} {mb n0:Nat} {D:DataW Value} (h:FlsAt w v ts) (hz:ts.length≤100000) (hm:w.ownsMap Tryz.prog 9 eV mb n0 D) (hD:MapF D M) (hs:∀ x ∈ ts,x.pa.size≤4611686018427387904∧QL x.pa.data.toList) (hpk:PkPr w ts):
 Calls Tryz.prog 89 #[v,.map (some mb)] w (GtR w M ts):=by
 obtain ⟨a,c,rfl,_,hfl⟩:=h
 have HF:Hid (∀ W,Below w.heap.size w W→∀ i (hi:i<ts.length),∃ g o,a=some ⟨g,o,none⟩∧sK W g (o+i*3) ts[i]):=fun W hb i hi=>by
  obtain ⟨g,o,e,hx⟩:=hfl i hi;exact ⟨g,o,e,vS _ _ _ _ _ hx hb⟩
 have HTP:Hid (∀ W i (hi:i<ts.length),Calls Tryz.prog 58 #[.string ts[i].pa] W fun e w'=>∃ ua un uc,e= .returned (.tuple #[.slice ua un uc,.bool (cH ts[i].pa.data.toList).isSome])∧OwnPa w' W.heap.size (.slice ua un uc) ((cH ts[i].pa.data.toList).getD [])∧Below W.heap.size W w'):=fun W i hi=>by
  obtain ⟨h1,h2⟩:=hs _ (List.getElem_mem hi);refine (BV ts[i].pa (by omega) h2 W).mono ?_;rintro e w' ⟨v,rfl,ho,hb⟩;obtain ⟨ua,uc,rfl⟩:=ho.at.sl;exact ⟨_,_,_,rfl,ho,hb⟩
 have HLK:Hid (∀ W,Below w.heap.size w W→∀ s:ByteArray,s.size≤maxLen→(Instr.lookup 74 (.map (some mb)) (.string s) false).run Tryz.prog W= .ok (.agg #[.string (cW M s).pa,.bool (cW M s).dr,.string (cW M s).da]) W):=fun W hb s hs=>(tU (bV hm hb) hD s hs).2
 have HPP:Hid (∀ k (hk:k<ts.length),(cH ts[k].pa.data.toList).isSome=true→∀ W,Below w.heap.size w W→∀ t,Calls Tryz.prog 141 #[.string t] W fun e w'=>∃ a1 n1 c1 a2 n2 c2 a3 n3 c3 er,e= .returned (.tuple #[.agg #[.string (gPk t).nm,.int .i64 (gPk t).a,.int .i64 (gPk t).b,.int .i64 (gPk t).c,.slice a1 n1 c1,.slice a2 n2 c2,.slice a3 n3 c3],.int .i64 er])∧OwnP w' W.heap.size (gPk t) (.slice a1 n1 c1) (.slice a2 n2 c2) (.slice a3 n3 c3)∧Below W.heap.size W w'):=fun k hk=>hpk _ (List.getElem_mem hk)
 have HSZ:Hid (∀ i (hi:i<ts.length),ts[i].pa.size≤4611686018427387904):=fun i hi=>(hs _ (List.getElem_mem hi)).1
 have HGD:Hid (∀ k (hk:k<ts.length),(∀ p,cH ts[k].pa.data.toList=some p→cR M (ts.take (k+1))=cR M (ts.take k)++[⟨p,gPk (cW M (ts[k].pa++cZ)).da,1⟩])∧(cH ts[k].pa.data.toList=none→cR M (ts.take (k+1))=cR M (ts.take k))):=fun k hk=>⟨fun p hp=>by rw [rO hk];unfold zJ;rw [hp],fun hp=>by rw [rO hk];unfold zJ;rw [hp,List.append_nil]⟩
 have HGL:Hid (∀ k,(cR M (ts.take k)).length≤1+k):=fun k=>by
  unfold cR;rw [List.length_cons]
  have:=kM M (ts.take k)
  have:(ts.take k).length≤k:=by rw [List.length_take];omega
  omega
 have HEN:Hid (cR M (ts.take ts.length)=cR M ts):=by unfold Hid;rw [List.take_length]
 have HR0:Hid ((w.alloc (.cells #[.slice none 0 0] 30)).heap[w.heap.size]? =some (.cells #[.slice none 0 0] 30)):=World.alloc_heap_new w _;have HB0:Hid (Below w.heap.size w (w.alloc (.cells #[.slice none 0 0] 30))):=aF _ _;have hft:=RB;have hfd:=GB;clear hs hm hpk hfl
 go_enter Tryz.func89,Tryz.ntmps89
 go_upto_region 2 with (go_at_call 33;refine (lP _).mono ?_;rintro e W1 ⟨g1,g2,rfl,_,hg2,_,hB2,hb1⟩;have HG0:Hid (∀ N5,N5=W1.heap.size→GtQ w N5 (.slice (some ⟨g2,0,none⟩) 1 1) [zDv] (W1.alloc (.cells #[.slice (some ⟨g2,0,none⟩) 1 1] 30))):=(fun N5 e=>by subst e;exact ⟨World.alloc_heap_new W1 _,((aF W1 _).block _ (by have:=bD HR0.out;have:=hb1.size;omega)).trans ((hb1.block _ (bD HR0.out)).trans HR0.out),(zK hg2 (by have:=HB0.out.size;omega)).below (aF _ _),aB (aB HB0.out hb1) (aF _ _),by have:=bD HR0.out;have:=hb1.size;omega⟩);clear hg2 hB2 hb1)
 obtain ⟨N5,hN5⟩:∃ N,N=W1.heap.size:=⟨_,rfl⟩;have HG:=aA (HG0.out N5 hN5);rw [←hN5];clear HG0 HB0 HR0;generalize (W1.alloc (.cells #[.slice (some ⟨g2,0,none⟩) 1 1] 30))=W2 at*;have HGS:Hid (∃ a n c xs,GtQ w N5 (.slice a n c) xs W2∧xs.map Dv.d=cR M (ts.take 0)):=⟨_,_,_,_,HG.out,rfl⟩;clear HG hN5
 go_wp2_with fail
 go_loopw [16] (fun vi wr=>∃ k:Nat,k≤ts.length∧vi= .int .i64 k∧Hid (∃ a n c xs,GtQ w N5 (.slice a n c) xs wr∧xs.map Dv.d=cR M (ts.take k))) (fun vi _=>ts.length - (intOf vi).toNat)
 case atStart=>exact ⟨0,Nat.zero_le _,rfl,HGS⟩
 case round=>
  obtain ⟨k,hk,rfl,HGK⟩:=hrel;clear HGS;obtain ⟨ra,rn,rc,xs,hgq,hxs⟩:=HGK.out;clear HGK;have HQ0:=aA hgq;have HXS:=aA hxs
  have hxl:xs.length≤1+k:=by
   have:=HGL.out k
   rw [←hxs,List.length_map] at this;exact this
  by_cases hlt:k<ts.length
  · have hki:(k:Int)<(ts.length:Int):=by omega
    obtain ⟨g,o,rfl,⟨f0,f1,f2⟩,_⟩:=HF.out wr hgq.below k hlt;have HTC:=aA (fun W=>HTP.out W k hlt);have hsz:=HSZ.out k hlt;obtain ⟨hgy,hgn⟩:=HGD.out k hlt;have HGY:=aA hgy;have HGN:=aA hgn;have HQ1:Hid (GtQ w N5 (.slice ra rn rc) xs (wr.alloc (.cells #[.string ts[k].pa,.bool ts[k].dr,.string ts[k].da] 45))):=hgq.keep (aF _ _);have HX1:Hid ((wr.alloc (.cells #[.string ts[k].pa,.bool ts[k].dr,.string ts[k].da] 45)).cell? ⟨wr.heap.size,0,none⟩=some (.string ts[k].pa)):=by unfold Hid;rw [World.cell?_alloc_new];rfl
    have hpz:cZ.size=8:=rfl;have e1:=fun W:World=>run_string_add_sum (P:=Tryz.prog) (w:=W) ts[k].pa cZ (by omega)
    have HSM:Hid ((ts[k].pa++cZ).size≤maxLen):=by unfold Hid maxLen;rw [bQ];omega
    have HLC:=aA (fun W hb=>HLK.out W hb (ts[k].pa++cZ) HSM.out);clear hgq hxs hgy hgn HTP HSZ HGD HF HSM hpz HQ0;generalize (cW M (ts[k].pa++cZ))=fx at*;cases hpv:cH ts[k].pa.data.toList with
    |none=>
     rw [hpv] at HTC HGN;have HR:=aA (HGN.out rfl);clear HGY HGN HLC HPP hpv;generalize ts[k]=x at*
     go_wp2_with (go_at_call 58;refine (HTC.out _).mono ?_;rintro e V1 ⟨ua,un,uc,rfl,_,ok⟩;have HQ2:=aA (HQ1.out.keep ok);clear HQ1 ok)
     exact ⟨⟨k+1,by omega,by go_num,⟨_,_,_,_,HQ2.out,by rw [HR.out];exact HXS.out⟩⟩,by simp [intOf];omega⟩
    |some p=>
     rw [hpv] at HTC HGY;have HR:=aA (HGY.out p rfl);have HPC:=aA (fun W hb=>HPP.out k hlt (by rw [hpv];rfl) W hb fx.da);clear HGY HGN hpv HPP HLK;generalize ts[k]=x at*;generalize gPk fx.da=pk at*;unfold cZ at e1
     go_wp2_with (first
      |(have _t:=HQ4;at_builtin;refine TS (B:=w.heap.size) (v:= .slice ra rn rc) (xs:=xs) (x:=⟨⟨p,pk,1⟩,.slice ua un uc,.slice a1 n1 c1,.slice a2 n2 c2,.slice a3 n3 c3⟩) (N:=V2.heap.size+1) rfl (.tmp 38) (.tmp 42) rfl rfl HQ4.out.row HQ4.out.below.size rfl HV4.out HN4.out (by omega) ?_;intro v1 w1 hr1 hg1;obtain ⟨hb5,hq5⟩:=HQ4.out.grown hr1 hg1;have HQ5:=aA hq5;have z1:w1.cell? ⟨N5,0,none⟩=some (.slice ra rn rc):=(by simp [World.cell?,hb5]);have z2:w1.frozen? ⟨N5,0,none⟩=false:=(by simp [World.frozen?,hb5]);obtain ⟨ya,yc,ye⟩:=hr1.form;obtain ⟨yn,hyn⟩:∃ n,n=(xs++[(⟨⟨p,pk,1⟩,.slice ua un uc,.slice a1 n1 c1,.slice a2 n2 c2,.slice a3 n3 c3⟩:Dv)]).length:=⟨_,rfl⟩;rw [←hyn] at ye;subst ye;clear hyn hr1 hg1 hq5 hb5 HQ4 HV4 HN4)
      |(have _t:=HQ2;go_at_call 141;refine (HPC.out _ HQ2.out.below).mono ?_;rintro e V2 ⟨a1,n1,c1,a2,n2,c2,a3,n3,c3,er,rfl,hop,ok⟩;have HQ3:=aA (HQ2.out.keep ok);have HQ4:Hid (GtQ w N5 (.slice ra rn rc) xs ((V2.alloc (pkO pk (.slice a1 n1 c1) (.slice a2 n2 c2) (.slice a3 n3 c3))).alloc (dvO ⟨⟨p,pk,1⟩,.slice ua un uc,.slice a1 n1 c1,.slice a2 n2 c2,.slice a3 n3 c3⟩))):=(HQ3.out.keep (aF _ _)).keep (aF _ _);have HV4:Hid (OwnV ((V2.alloc (pkO pk (.slice a1 n1 c1) (.slice a2 n2 c2) (.slice a3 n3 c3))).alloc (dvO ⟨⟨p,pk,1⟩,.slice ua un uc,.slice a1 n1 c1,.slice a2 n2 c2,.slice a3 n3 c3⟩)) w.heap.size ⟨⟨p,pk,1⟩,.slice ua un uc,.slice a1 n1 c1,.slice a2 n2 c2,.slice a3 n3 c3⟩):=(⟨cP ((HPA.out.below ok).below (aB (aF _ _) (aF _ _))) HQ1s.out,(hop.base HQ2.out.below.size).below (aB (aF _ _) (aF _ _))⟩);have HN4:Hid (∀ j u,(mT ⟨⟨p,pk,1⟩,.slice ua un uc,.slice a1 n1 c1,.slice a2 n2 c2,.slice a3 n3 c3⟩)[j]? =some u→((V2.alloc (pkO pk (.slice a1 n1 c1) (.slice a2 n2 c2) (.slice a3 n3 c3))).alloc (dvO ⟨⟨p,pk,1⟩,.slice ua un uc,.slice a1 n1 c1,.slice a2 n2 c2,.slice a3 n3 c3⟩)).cell? ((⟨V2.heap.size+1,0,none⟩:Addr).add j)=some u):=(by have e:=wG (V2.alloc (pkO pk (.slice a1 n1 c1) (.slice a2 n2 c2) (.slice a3 n3 c3))) #[.slice ua un uc,.string pk.nm,.int .i64 pk.a,.int .i64 pk.b,.int .i64 pk.c,.slice a1 n1 c1,.slice a2 n2 c2,.slice a3 n3 c3,.int .i64 1] 56;rw [World.size_alloc] at e;exact e);obtain ⟨b0,b1⟩:=HQ3.out.cell;obtain ⟨c0,d0⟩:=(HQ3.out.keep (aF V2 (pkO pk (.slice a1 n1 c1) (.slice a2 n2 c2) (.slice a3 n3 c3)))).cell;obtain ⟨e0,e9⟩:=HQ4.out.cell;clear HQ2 HQ3 HPA ok hop hlk)
      |(have _t:=HQ1;go_at_call 58;refine (HTC.out _).mono ?_;rintro e V1 ⟨ua,un,uc,rfl,hpa,ok⟩;have HQ2:=aA (HQ1.out.keep ok);have HPA:Hid (OwnPa V1 _ (.slice ua un uc) p):=hpa;have HQ1s:=aA HQ1.out.below.size;have x1:V1.cell? ⟨wr.heap.size,0,none⟩=some (.string x.pa):=(ok.cell (p:=⟨wr.heap.size,0,none⟩) (by simp)).trans HX1.out;have hlk:=HLC.out V1 HQ2.out.below;unfold cZ at hlk;clear HQ1 ok hpa))
     exact ⟨⟨k+1,by omega,by go_num,⟨_,_,_,_,HQ5.out,by rw [HR.out,List.map_append,HXS.out];rfl⟩⟩,by simp [intOf];omega⟩
  · obtain rfl:k=ts.length:=by omega
    have hki:¬ (ts.length:Int)<(ts.length:Int):=by omega
    obtain ⟨b0,b1⟩:=hgq.cell;have r0:wr.cell? ⟨w.heap.size,0,none⟩=some (.slice none 0 0):=by simp [World.cell?,hgq.res]
    have r1:wr.frozen? ⟨w.heap.size,0,none⟩=false:=by simp [World.frozen?,hgq.res]
    have HR:Hid (RowV (wr.setCell ⟨w.heap.size,0,none⟩ (.slice ra rn rc)) w.heap.size (.slice ra rn rc) xs∧xs.map Dv.d=cR M ts∧Below w.heap.size w (wr.setCell ⟨w.heap.size,0,none⟩ (.slice ra rn rc))∧(wr.setCell ⟨w.heap.size,0,none⟩ (.slice ra rn rc)).cell? ⟨w.heap.size,0,none⟩=some (.slice ra rn rc)):=⟨hgq.row.far hgq.res (by decide) (by decide) (kN _ _ _ _),by rw [←HEN.out];exact hxs,hgq.below.grown (kN _ _ _ _) hgq.below.size (fun j e=>by cases e;exact Nat.le_refl _),by simp [World.setCell,World.cell?,Array.getElem?_modify,hgq.res]⟩;have s0:=HR.out.2.2.2;clear hgq hxs HQ0 HXS HTP HSZ HGD HF HLK HPP
    go_wp2_with fail
    refine bodyPost_ret (by simp [results,Tryz.results89,s0,go_sem];try rfl) rfl ?_;exact ⟨_,_,_,xs,rfl,HR.out.1,HR.out.2.1,HR.out.2.2.1⟩
end Go.Proofs.YtlmpiohbmlddiaaGreatDoor
namespace Go.Proofs.YtlmpiohbmlddiaaGreatDoor
open Go.RowKit
set_option maxRecDepth 100000
theorem dP {w:World} {N i j:Nat} {u x:Value} (h:i≠j) (hx:w.cell? ⟨N,j,none⟩=some x):(w.setCell ⟨N,i,none⟩ u).cell? ⟨N,j,none⟩=some x:=(World.cell?_setCell_other _ _ _ _ (fun e=>by cases e;exact h rfl)).trans hx
theorem VP {w:World} {N:Nat} {x0 x1 x2 x3:Value} (j0:w.cell? ⟨N,0,none⟩=some x0) (j1:w.cell? ⟨N,1,none⟩=some x1) (j2:w.cell? ⟨N,2,none⟩=some x2) (j3:w.cell? ⟨N,3,none⟩=some x3) (u0 u1 u2 u3:Value):
 ((((w.setCell ⟨N,0,none⟩ u0).setCell ⟨N,1,none⟩ u1).setCell ⟨N,2,none⟩ u2).setCell ⟨N,3,none⟩ u3).cell? ⟨N,0,none⟩=some u0∧((((w.setCell ⟨N,0,none⟩ u0).setCell ⟨N,1,none⟩ u1).setCell ⟨N,2,none⟩ u2).setCell ⟨N,3,none⟩ u3).cell? ⟨N,1,none⟩=some u1∧((((w.setCell ⟨N,0,none⟩ u0).setCell ⟨N,1,none⟩ u1).setCell ⟨N,2,none⟩ u2).setCell ⟨N,3,none⟩ u3).cell? ⟨N,2,none⟩=some u2∧((((w.setCell ⟨N,0,none⟩ u0).setCell ⟨N,1,none⟩ u1).setCell ⟨N,2,none⟩ u2).setCell ⟨N,3,none⟩ u3).cell? ⟨N,3,none⟩=some u3:=by
 exact ⟨dP (by decide) (dP (by decide) (dP (by decide) (World.cell?_setCell_same _ _ _ (j0)))),dP (by decide) (dP (by decide) (World.cell?_setCell_same _ _ _ (dP (by decide) (j1)))),dP (by decide) (World.cell?_setCell_same _ _ _ (dP (by decide) (dP (by decide) (j2)))),World.cell?_setCell_same _ _ _ (dP (by decide) (dP (by decide) (dP (by decide) (j3))))⟩
def mfW:List Sc.Bs:=[[110,101,101,100,115],[100,101,118],[108,105,107,101,115],[112,105,110,115]]
def GD:List (List Sc.Bs)→Int
 |[]=>22
 |h::r=>if h=[[112,114,111,106,101,99,116]] then (kV mfW 0 [[],[],[],[]] r).1 else 22
def GE:List (List Sc.Bs)→Mn
 |[]=>⟨[],[],[],[]⟩
 |_::r=>⟨(kV mfW 0 [[],[],[],[]] r).2.getD 0 [],(kV mfW 0 [[],[],[],[]] r).2.getD 1 [],(kV mfW 0 [[],[],[],[]] r).2.getD 2 [],(kV mfW 0 [[],[],[],[]] r).2.getD 3 []⟩
def OwnM (w:World) (B:Nat) (P:Mn) (v1 v2 v3 v4:Value):Prop:=∃ q1 q2 q3 q4,(OwnD w B v1 q1∧q1.map (·.1)=P.d)∧(OwnD w B v2 q2∧q2.map (·.1)=P.v)∧(OwnD w B v3 q3∧q3.map (·.1)=P.o)∧(OwnD w B v4 q4∧q4.map (·.1)=P.p)
theorem OwnM.below {w w':World} {B:Nat} {P:Mn} {v1 v2 v3 v4:Value} (h:OwnM w B P v1 v2 v3 v4) (hb:Below w.heap.size w w'):OwnM w' B P v1 v2 v3 v4:=by
 obtain ⟨q1,q2,q3,q4,h1,h2,h3,h4⟩:=h;exact ⟨q1,q2,q3,q4,⟨h1.1.below hb,h1.2⟩,⟨h2.1.below hb,h2.2⟩,⟨h3.1.below hb,h3.2⟩,h4.1.below hb,h4.2⟩
theorem OwnM.base {w:World} {B C:Nat} {P:Mn} {v1 v2 v3 v4:Value} (h:OwnM w B P v1 v2 v3 v4) (hc:C≤B):OwnM w C P v1 v2 v3 v4:=by
 obtain ⟨q1,q2,q3,q4,h1,h2,h3,h4⟩:=h;exact ⟨q1,q2,q3,q4,⟨h1.1.base hc,h1.2⟩,⟨h2.1.base hc,h2.2⟩,⟨h3.1.base hc,h3.2⟩,h4.1.base hc,h4.2⟩
theorem OwnM.at {w:World} {B:Nat} {P:Mn} {v1 v2 v3 v4:Value} (h:OwnM w B P v1 v2 v3 v4):MnAt w P v1 v2 v3 v4:=by
 obtain ⟨q1,q2,q3,q4,h1,h2,h3,h4⟩:=h;exact ⟨h1.2 ▸ h1.1.at,h2.2 ▸ h2.1.at,h3.2 ▸ h3.1.at,h4.2 ▸ h4.1.at⟩
noncomputable def GF (t:ByteArray):Int:=if Sc.BS t 4096=0 then (if GD (Sc.lG t 4096)=0 then (if aN (GE (Sc.lG t 4096))=true then 0 else 25) else GD (Sc.lG t 4096)) else Sc.BS t 4096
def PD (t:ByteArray):Mn:=GE (Sc.lG t 4096)
end Go.Proofs.YtlmpiohbmlddiaaGreatDoor
namespace Go.Proofs.YtlmpiohbmlddiaaGreatDoor.Lo
open Go.RowKit
open Sc (KeepP aA aD Bs ba WordsAt)
set_option maxRecDepth 100000
structure NV where
 nd:Nd
 vc:Value
 ve:Value
def pnC (p:Pn):List Value:=[.string p.nm,.int .i64 p.a,.int .i64 p.b,.int .i64 p.c]
def egC (e:Eg):List Value:=[.string e.lb,.int .i64 e.to]
def ndC (x:NV):List Value:=[.string x.nd.nm,.int .i64 x.nd.a,.int .i64 x.nd.b,.int .i64 x.nd.c,x.vc,x.ve]
def OwnP (w:World) (B:Nat) (v:Value) (L:List Pn):Prop:=w.ownsRow B 129 4 v L.length (L.flatMap pnC)
def OwnE (w:World) (B:Nat) (v:Value) (L:List Eg):Prop:=w.ownsRow B 62 2 v L.length (L.flatMap egC)
def RA (w:World) (B:Nat) (v:Value) (all:List NV):Prop:=
 w.ownsRow B 60 6 v all.length (all.flatMap ndC)∧∀ x ∈ all,OwnP w B x.vc x.nd.cx∧OwnE w B x.ve x.nd.ed
def mU (f:Nd→Nd):List Nd→List Nd
 |[]=>[]
 |[l]=>[f l]
 |x::y::r=>x::mU f (y::r)
theorem jG (f:Nd→Nd) (l:Nd):∀ dn:List Nd,mU f (dn++[l])=dn++[f l]
 |[]=>rfl
 |[x]=>rfl
 |x::y::r=>by
  have:=jG f l (y::r)
  simp only [List.cons_append] at this ⊢;unfold mU;rw [this]
def VQ (p:Pn) (n:Nd):Nd:=⟨n.nm,n.a,n.b,n.c,n.cx++[p],n.ed⟩
def VR (e:Eg) (n:Nd):Nd:=⟨n.nm,n.a,n.b,n.c,n.cx,n.ed++[e]⟩
def PE (st:List Nd):List Eg:=match st.getLast? with
 |some n=>n.ed
 |none=>[]
theorem DI (dn:List Nd) (l:Nd):PE (dn++[l])=l.ed:=by unfold PE;simp
def nd0:Nd:=⟨⟨#[]⟩,0,0,0,[],[]⟩
def PF (st:List Nd) (ws:List Bs):Option (List Nd):=if ws=[] then some (st++[nd0]) else none
def PG (st:List Nd) (ws:List Bs):Option (List Nd):=if (nW ws).2=true then some (st++[⟨(nW ws).1.nm,(nW ws).1.a,(nW ws).1.b,(nW ws).1.c,[],[]⟩]) else none
def RU (st:List Nd) (ws:List Bs):Option (List Nd):=if (nW ws).2=true∧PE st=[] then some (mU (VQ (nW ws).1) st) else none
def PH (st:List Nd) (ws:List Bs):Option (List Nd):=if (JZ ws).2=true then some (mU (VR (JZ ws).1) st) else none
end Go.Proofs.YtlmpiohbmlddiaaGreatDoor.Lo
namespace Go.Proofs.YtlmpiohbmlddiaaGreatDoor.Lo
open Go.RowKit
open Sc (KeepP aA aD Bs ba WordsAt)
set_option maxRecDepth 100000
open Sc (KeepP aA aD Bs ba WordsAt LinesAt isL)
def rP:Bs:=[114,111,111,116]
def GG:Bs:=[110,111,100,101]
def zM:Bs:=[119,105,116,104]
def wTo:Bs:=[116,111]
def GH (st:List Nd) (x:Bs) (ws:List Bs):Option (List Nd):=
 if x=rP then (if st=[] then PF st ws else none)
 else if st=[] then none
 else if x=GG then PG st ws else if x=zM then RU st ws else if x=wTo then PH st ws else none
def zN:List Nd→List (List Bs)→Option (List Nd)
 |st,[]=>some st
 |_,[]::_=>none
 |st,(x::ws)::r=>match GH st x ws with
  |some st'=>zN st' r
  |none=>none
def zO:Bs:=[108,111,99,107]
def RV:List (List Bs)→Option (List Nd)
 |[]=>none
 |h::r=>if h=[zO] then zN [] r else none
end Go.Proofs.YtlmpiohbmlddiaaGreatDoor.Lo
namespace Go.Proofs.YtlmpiohbmlddiaaGreatDoor.Lo
open Go.RowKit
open Sc (KeepP aA aD Bs ba WordsAt LinesAt isL)
set_option maxRecDepth 100000
open Sc (KeepP aA aD Bs ba WordsAt LinesAt isL isW aQ cB)
open Sc (Bs ba isW isL wB cB aQ aH)
theorem pH {α β:Type} {f:α→List β} {k:Nat} (hf:∀ x,(f x).length=k):∀ (L:List α) (i c:Nat) (hi:i<L.length),c<k→(L.flatMap f)[i*k+c]? =(f L[i])[c]?
 |x::r,0,c,_,hc=>by
  rw [List.flatMap_cons,Nat.zero_mul,Nat.zero_add,List.getElem?_append_left (by rw [hf];exact hc)];rfl
 |x::r,i+1,c,hi,hc=>by
  have hi':i<r.length:=by simpa using hi
  have e:(i+1)*k+c=k+(i*k+c):=by rw [Nat.succ_mul];omega
  rw [List.flatMap_cons,e,List.getElem?_append_right (by rw [hf];omega),hf,Nat.add_sub_cancel_left,pH hf r i c hi' hc];rfl
theorem OwnP.at {w:World} {B:Nat} {v:Value} {L:List Pn} (h:OwnP w B v L):PinsAt w v L:=by
 have h0:=h
 rcases h.2 with ⟨rfl,hn⟩|⟨g,cap,cur,rfl,hB,hg,hc,_⟩
 · exact ⟨none,0,by rw [hn],by omega,Or.inl (List.eq_nil_of_length_eq_zero hn)⟩
 · refine ⟨_,cap,rfl,hc,Or.inr ⟨g,0,rfl,(Array.getElem?_eq_some_iff.1 hg).1,fun i hi=>⟨?_,(Array.getElem?_eq_some_iff.1 hg).1⟩⟩⟩
   have q:∀ c,c<4→w.cell? ⟨g,0+i*4+c,none⟩=(pnC L[i])[c]? :=fun c hc=>by
    rw [Nat.zero_add,World.ownsRow.cellAt h0 (i*4+c) (by omega)];exact pH (f:=pnC) (k:=4) (fun _=>rfl) L i c hi hc
   exact ⟨q 0 (by decide),q 1 (by decide),q 2 (by decide),q 3 (by decide)⟩
theorem OwnE.at {w:World} {B:Nat} {v:Value} {L:List Eg} (h:OwnE w B v L):EdgesAt w v L:=by
 have h0:=h
 rcases h.2 with ⟨rfl,hn⟩|⟨g,cap,cur,rfl,hB,hg,hc,_⟩
 · exact ⟨none,0,by rw [hn],by omega,Or.inl (List.eq_nil_of_length_eq_zero hn)⟩
 · refine ⟨_,cap,rfl,hc,Or.inr ⟨g,0,rfl,(Array.getElem?_eq_some_iff.1 hg).1,fun i hi=>⟨?_,(Array.getElem?_eq_some_iff.1 hg).1⟩⟩⟩
   have q:∀ c,c<2→w.cell? ⟨g,0+i*2+c,none⟩=(egC L[i])[c]? :=fun c hc=>by
    rw [Nat.zero_add,World.ownsRow.cellAt h0 (i*2+c) (by omega)];exact pH (f:=egC) (k:=2) (fun _=>rfl) L i c hi hc
   exact ⟨q 0 (by decide),q 1 (by decide)⟩
theorem RA.at {w:World} {B:Nat} {v:Value} {all:List NV} (h:RA w B v all):NodesAt w v (all.map NV.nd):=by
 have h0:=h.1
 rcases h.1.2 with ⟨rfl,hn⟩|⟨g,cap,cur,rfl,hB,hg,hc,_⟩
 · have:all=[]:=List.eq_nil_of_length_eq_zero hn
   subst this;exact ⟨none,0,rfl,Nat.le_refl _,Or.inl rfl⟩
 · refine ⟨_,cap,by rw [List.length_map],by rw [List.length_map];exact hc,Or.inr ⟨g,0,rfl,(Array.getElem?_eq_some_iff.1 hg).1,fun i hi=> ?_⟩⟩
   have hi':i<all.length:=by simpa using hi
   have q:∀ c,c<6→w.cell? ⟨g,0+i*6+c,none⟩=(ndC all[i])[c]? :=fun c hc=>by
    rw [Nat.zero_add,World.ownsRow.cellAt h0 (i*6+c) (by omega)];exact pH (f:=ndC) (k:=6) (fun _=>rfl) all i c hi' hc
   have hm:=h.2 _ (List.getElem_mem hi');rw [List.getElem_map];exact ⟨all[i].vc,all[i].ve,⟨q 0 (by decide),q 1 (by decide),q 2 (by decide),q 3 (by decide),q 4 (by decide),q 5 (by decide)⟩,⟨hm.1.at,hm.2.at⟩,(Array.getElem?_eq_some_iff.1 hg).1⟩
def DJ (t:ByteArray):Option (List Nd):=if Sc.BS t 1048576=0 then (match RV (Sc.lG t 1048576) with
    |some st=>if cU st=true then some st else none
    |none=>none) else none
theorem zP {t:ByteArray} (h:Sc.BS t 1048576=0):(Sc.lG t 1048576).all isL=true∧aQ (Sc.lG t 1048576)=t.data.toList∧t.size≤1048576:=by
 unfold Sc.BS at h;unfold Sc.lG
 split at h
 · cases h
 · rename_i hs
   rw [if_neg hs];cases hr:Sc.lT t.data.toList [] [] [] with
   |error n=>rw [hr] at h;cases h
   |ok L=>
    obtain ⟨h1,h2⟩:=Sc.kA _ _ _ _ _ hr rfl rfl rfl;refine ⟨h1,?_,by omega⟩;show aQ L=_
    simpa [Sc.uB,aQ] using h2
def oW:List Nd→List (List Bs)
 |[]=>[]
 |n::r=>[rP]::(cQ n++fX r)
theorem lQ {st:List Nd} (h:st≠[]):lM st=[zO]::oW st:=by
 cases st with
 |nil=>exact absurd rfl h
 |cons n r=>rfl
theorem kO {dn:List Nd} (h:dn≠[]) (n:Nd):oW (dn++[n])=oW dn++(fP n::cQ n):=by
 cases dn with
 |nil=>exact absurd rfl h
 |cons m r=>
  show [rP]::(cQ m++fX (r++[n]))=[rP]::(cQ m++fX r)++(fP n::cQ n);rw [rJ]
  simp
theorem zQ (dn:List Nd) {l l':Nd} {x:List Bs} (hn:fP l'=fP l) (hl:cQ l'=cQ l++[x]):oW (dn++[l'])=oW (dn++[l])++[x]:=by
 by_cases h:dn=[]
 · subst h
   show [rP]::(cQ l'++[])=[rP]::(cQ l++[])++[x];rw [hl]
   simp
 · rw [kO h,kO h,hn,hl]
   simp
theorem GI {st:List Nd} (h:st≠[]):∃ dn l,st=dn++[l]:=⟨st.dropLast,st.getLast h,(List.dropLast_concat_getLast h).symm⟩
theorem GJ {ws:List Bs} (h:(nW ws).2=true):ws=[(nW ws).1.nm.data.toList,bsV (nW ws).1.a (nW ws).1.b (nW ws).1.c]:=by
 match ws,h with
 |[x,y],h=>
  have h1:okP (ba y)=true:=h;have h2:=(LT h1).2;show [x,y]=[(ba x).data.toList,bsV (BD (ba y)) (BE (ba y)) (BF (ba y))];unfold bsV;rw [←h2,Sc.dQ,Sc.dQ]
theorem RC {ws:List Bs} (h:(JZ ws).2=true):ws=[(JZ ws).1.lb.data.toList,Lib.itoa (JZ ws).1.to]:=by
 match ws,h with
 |[x,y],h=>
  have h1:Sc.yK y 127=true:=h;show [x,y]=[(ba x).data.toList,Lib.itoa (Sc.yJ y 127)];cases hr:Sc.yH y with
  |none=>rw [(Sc.OK hr 127).2] at h1;cases h1
  |some n=>
   by_cases hm:(n:Int)≤127
   · rw [(Sc.TJ hr hm).1,Sc.dQ,lZ (by omega),(Sc.OJ hr).1]
     simp
   · rw [(Sc.QW hr hm).2] at h1;cases h1
theorem PI {st st':List Nd} {x:Bs} {ws:List Bs} (h:GH st x ws=some st'):oW st'=oW st++[x::ws]∧st'≠[]:=by
 unfold GH at h
 split at h
 · rename_i hx
   split at h
   · rename_i hs
     unfold PF at h
     split at h
     · rename_i hw
       cases h;subst hs hx hw;exact ⟨rfl,by simp⟩
     · cases h
   · cases h
 · split at h
   · cases h
   · rename_i hs
     split at h
     · rename_i hx
       unfold PG at h
       split at h
       · rename_i hp
         cases h;refine ⟨?_,by simp⟩;rw [kO hs,hx]
         have:=GJ hp
         show oW st++([GG,_,_]::[])=_;rw [←this]
       · cases h
     · split at h
       · rename_i hx
         unfold RU at h
         split at h
         · rename_i hp
           cases h;obtain ⟨dn,l,rfl⟩:=GI hs;rw [DI] at hp;rw [jG];refine ⟨?_,by simp⟩;refine zQ dn (l:=l) rfl ?_
           have:=GJ hp.1
           show (l.cx++[(nW ws).1]).map dH++l.ed.map dY=(l.cx.map dH++l.ed.map dY)++[x::ws];rw [hp.2,hx,this];simp only [List.map_append,List.map_nil,List.append_nil,List.map_cons];rw [←this];show _++[dH _]=_;unfold dH;rw [←this];rfl
         · cases h
       · split at h
         · rename_i hx
           unfold PH at h
           split at h
           · rename_i hp
             cases h;obtain ⟨dn,l,rfl⟩:=GI hs;rw [jG];refine ⟨?_,by simp⟩;refine zQ dn (l:=l) rfl ?_
             have:=RC hp
             show l.cx.map dH++(l.ed++[(JZ ws).1]).map dY=(l.cx.map dH++l.ed.map dY)++[x::ws];rw [hx];simp only [List.map_append,List.map_nil,List.map_cons,List.append_assoc];unfold dY;rw [←this];rfl
           · cases h
         · cases h
theorem zR:∀ {L:List (List Bs)} {st st':List Nd},zN st L=some st'→oW st'=oW st++L
 |[],st,st',h=>by cases h;simp
 |[]::L,st,st',h=>by cases h
 |(x::ws)::L,st,st',h=>by
  unfold zN at h;cases ht:GH st x ws with
  |none=>rw [ht] at h;cases h
  |some s=>
   rw [ht] at h;rw [zR h,(PI ht).1,List.append_assoc];rfl
theorem PJ {t:ByteArray} {G:List Nd} (h:DJ t=some G):cU G=true∧mP G=t:=by
 unfold DJ at h
 split at h
 · rename_i hE
   obtain ⟨f1,f2,f3⟩:=zP hE;cases hr:RV (Sc.lG t 1048576) with
   |none=>rw [hr] at h;cases h
   |some st=>
    rw [hr] at h
    simp only at h
    split at h
    · rename_i hm
      obtain rfl:st=G:=Option.some.inj h;refine ⟨hm,?_⟩;have hne:st≠[]:=by rintro rfl;cases hm
      have hL:lM st=Sc.lG t 1048576:=by
       rw [lQ hne];cases hl:Sc.lG t 1048576 with
       |nil=>rw [hl] at hr;cases hr
       |cons a r=>
        rw [hl] at hr;have hr':(if a=[zO] then zN [] r else none)=some st:=hr
        by_cases ha:a=[zO]
        · rw [if_pos ha] at hr'
          rw [zR hr',ha];rfl
        · rw [if_neg ha] at hr'
          cases hr'
      unfold mP;rw [hL,f2,Sc.sP]
    · cases h
 · cases h
end Go.Proofs.YtlmpiohbmlddiaaGreatDoor.Lo
