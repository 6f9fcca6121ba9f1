/- Gu1, Gp1, Gp3, Gu2: their declarations that are needed, laid in one text, remarks and blanks left out. -/
import Derived.Lib.SliceRun
import Derived.Test.YtpfemjlhklnfoaaGreatDoorMh31
namespace Go.Proofs.YtpfemjlhklnfoaaGreatDoor
open Go.Shelf Go.RowKit Go.Maps Go.WideMaps
set_option maxRecDepth 100000
def LY (w w':World) (e:Ending):Prop:=∃ C E M L R,e= .returned (.tuple #[.pointer (some ⟨C,0,none⟩),.pointer (some ⟨E,0,none⟩),.bool true])∧MZ w w' C E M L R
set_option maxHeartbeats 12800000 in
theorem sV {w:World} (he:Env w) (hf:FL w) {ap:Option Addr} {cp:Nat} {Ps:List Pg} (hps:PgsAt w (.slice ap Ps.length cp) Ps) (hpz:Ps.length≤9223372036854775807) (hpo:∀ P ∈ Ps,lH P) {x1 x2 x3 x4:Option Addr} {y1 y2 y3 y4 z1 z2 z3 z4:Nat} {dv:Bool}:Calls Tryz.prog 25 #[.agg #[.slice ap Ps.length cp,.slice x1 y1 z1,.slice x2 y2 z2,.slice x3 y3 z3,.slice x4 y4 z4,.bool dv]] w fun e w'=>LY w w' e:=by
 obtain ⟨ad0,cap0,eq0,hel⟩:=hps.sl;injection eq0 with eq1 eq2 eq3
 clear eq2 eq3;subst eq1;have HEL:=aA hel;have HPO:=aA hpo;have hs0:(w.alloc (.cells #[.slice ap Ps.length cp,.slice x1 y1 z1,.slice x2 y2 z2,.slice x3 y3 z3,.slice x4 y4 z4,.bool dv] 59)).heap.size=w.heap.size+1:=by simp
 have HNW:Hid (Calls Tryz.prog 9 #[] (w.alloc (.cells #[.slice ap Ps.length cp,.slice x1 y1 z1,.slice x2 y2 z2,.slice x3 y3 z3,.slice x4 y4 z4,.bool dv] 59)) fun e w'=>e= .returned (.pointer (some ⟨w.heap.size+2,0,none⟩))∧w'=(((w.alloc (.cells #[.slice ap Ps.length cp,.slice x1 y1 z1,.slice x2 y2 z2,.slice x3 y3 z3,.slice x4 y4 z4,.bool dv] 59)).alloc (.map #[] 0)).alloc (.cells #[.map (some (w.heap.size+1))] 83))):=by
  have e:=yW (w.alloc (.cells #[.slice ap Ps.length cp,.slice x1 y1 z1,.slice x2 y2 z2,.slice x3 y3 z3,.slice x4 y4 z4,.bool dv] 59));rw [hs0] at e;exact e
 have HC0:Hid (CatAt ((((w.alloc (.cells #[.slice ap Ps.length cp,.slice x1 y1 z1,.slice x2 y2 z2,.slice x3 y3 z3,.slice x4 y4 z4,.bool dv] 59)).alloc (.map #[] 0)).alloc (.cells #[.map (some (w.heap.size+1))] 83)).alloc (.cells #[.slice none 0 0] 28)) w.heap.size (w.heap.size+2) (w.heap.size+1) []):=by
  have e:=CatAt.new (w.alloc (.cells #[.slice ap Ps.length cp,.slice x1 y1 z1,.slice x2 y2 z2,.slice x3 y3 z3,.slice x4 y4 z4,.bool dv] 59)) w.heap.size;rw [hs0] at e;exact e.below (aD _ _)
 have hs2:(((w.alloc (.cells #[.slice ap Ps.length cp,.slice x1 y1 z1,.slice x2 y2 z2,.slice x3 y3 z3,.slice x4 y4 z4,.bool dv] 59)).alloc (.map #[] 0)).alloc (.cells #[.map (some (w.heap.size+1))] 83)).heap.size=w.heap.size+3:=by simp
 have HR0:Hid (RcAt w ((((w.alloc (.cells #[.slice ap Ps.length cp,.slice x1 y1 z1,.slice x2 y2 z2,.slice x3 y3 z3,.slice x4 y4 z4,.bool dv] 59)).alloc (.map #[] 0)).alloc (.cells #[.map (some (w.heap.size+1))] 83)).alloc (.cells #[.slice none 0 0] 28)) (w.heap.size+3) []):=by
  have e:=RcAt.new w (((w.alloc (.cells #[.slice ap Ps.length cp,.slice x1 y1 z1,.slice x2 y2 z2,.slice x3 y3 z3,.slice x4 y4 z4,.bool dv] 59)).alloc (.map #[] 0)).alloc (.cells #[.map (some (w.heap.size+1))] 83));rw [hs2] at e;exact e
 have HB0:Hid (Below w.heap.size w ((((w.alloc (.cells #[.slice ap Ps.length cp,.slice x1 y1 z1,.slice x2 y2 z2,.slice x3 y3 z3,.slice x4 y4 z4,.bool dv] 59)).alloc (.map #[] 0)).alloc (.cells #[.map (some (w.heap.size+1))] 83)).alloc (.cells #[.slice none 0 0] 28))):=aB (aB (aD _ _) (aR _ _ _)) (aD _ _)
 have HK0:Hid ((((CatAt ((((w.alloc (.cells #[.slice ap Ps.length cp,.slice x1 y1 z1,.slice x2 y2 z2,.slice x3 y3 z3,.slice x4 y4 z4,.bool dv] 59)).alloc (.map #[] 0)).alloc (.cells #[.map (some (w.heap.size+1))] 83)).alloc (.cells #[.slice none 0 0] 28)) w.heap.size (w.heap.size+2) (w.heap.size+1) ([]:List CV)∧([]:List CV).length≤128)∧RcAt w ((((w.alloc (.cells #[.slice ap Ps.length cp,.slice x1 y1 z1,.slice x2 y2 z2,.slice x3 y3 z3,.slice x4 y4 z4,.bool dv] 59)).alloc (.map #[] 0)).alloc (.cells #[.map (some (w.heap.size+1))] 83)).alloc (.cells #[.slice none 0 0] 28)) (w.heap.size+3) ([]:List CV))∧Below w.heap.size w ((((w.alloc (.cells #[.slice ap Ps.length cp,.slice x1 y1 z1,.slice x2 y2 z2,.slice x3 y3 z3,.slice x4 y4 z4,.bool dv] 59)).alloc (.map #[] 0)).alloc (.cells #[.map (some (w.heap.size+1))] 83)).alloc (.cells #[.slice none 0 0] 28)))∧(((((w.alloc (.cells #[.slice ap Ps.length cp,.slice x1 y1 z1,.slice x2 y2 z2,.slice x3 y3 z3,.slice x4 y4 z4,.bool dv] 59)).alloc (.map #[] 0)).alloc (.cells #[.map (some (w.heap.size+1))] 83)).alloc (.cells #[.slice none 0 0] 28)).cell? ⟨w.heap.size,0,none⟩=some (.slice ap Ps.length cp)∧w.heap.size<((((w.alloc (.cells #[.slice ap Ps.length cp,.slice x1 y1 z1,.slice x2 y2 z2,.slice x3 y3 z3,.slice x4 y4 z4,.bool dv] 59)).alloc (.map #[] 0)).alloc (.cells #[.map (some (w.heap.size+1))] 83)).alloc (.cells #[.slice none 0 0] 28)).heap.size)):=⟨⟨⟨⟨HC0.out,by decide⟩,HR0.out⟩,HB0.out⟩,((aB (aR (w.alloc (.cells #[.slice ap Ps.length cp,.slice x1 y1 z1,.slice x2 y2 z2,.slice x3 y3 z3,.slice x4 y4 z4,.bool dv] 59)) _ _) (aD _ _)).cell (p:=⟨w.heap.size,0,none⟩) (by simp)).trans (by simp),Nat.lt_of_lt_of_le (by simp) (aB (aR (w.alloc (.cells #[.slice ap Ps.length cp,.slice x1 y1 z1,.slice x2 y2 z2,.slice x3 y3 z3,.slice x4 y4 z4,.bool dv] 59)) _ _) (aD _ _)).size⟩
 have HPC:Hid (∀ (W:World) (L R:List CV) (P:Pg) (v1 v2 v3:Value),((((CatAt W w.heap.size (w.heap.size+2) (w.heap.size+1) L∧L.length≤128)∧RcAt w W (w.heap.size+3) R)∧Below w.heap.size w W)∧(W.cell? ⟨w.heap.size,0,none⟩=some (.slice ap Ps.length cp)∧w.heap.size<W.heap.size))→PgAt w P v1 v2 v3→Calls Tryz.prog 12 #[.pointer (some ⟨w.heap.size+2,0,none⟩),.agg #[.string P.nm,.int .i64 P.a,.int .i64 P.b,.int .i64 P.c,v1,v2,v3]] W fun e w'=>∃ L',e= .returned (.int .i64 (cD L P))∧PutL L L' P∧((((CatAt w' w.heap.size (w.heap.size+2) (w.heap.size+1) L'∧L'.length≤128)∧RcAt w w' (w.heap.size+3) R)∧Below w.heap.size w w')∧(w'.cell? ⟨w.heap.size,0,none⟩=some (.slice ap Ps.length cp)∧w.heap.size<w'.heap.size))):=fun W L R P v1 v2 v3 hk hp=>by
  refine (CH hk.1.1.1.1 hk.1.2.size hk.1.1.1.2 (hp.below hk.1.2) (he.below hk.1.2) (hf.below hk.1.2)).mono ?_;rintro e w' ⟨L',rfl,hc,hq,hg⟩;obtain ⟨es,cl,hm,_⟩:=JQ hk.1.1.1.1;exact ⟨L',rfl,hq,⟨⟨hc,hk.1.1.2.map ⟨es,cl,hm⟩ hg⟩,hk.1.2.grown hg hk.1.2.size (fun j hj=>by cases hj;omega)⟩,(World.cell?_of_block (a:=⟨w.heap.size,0,none⟩) (hg.block w.heap.size hk.2.2 (fun q=>by have:=Option.some.inj q;omega))).trans hk.2.1,Nat.lt_of_lt_of_le hk.2.2 hg.size⟩
 have HPR:Hid (∀ (W:World) (L R:List CV) (P:Pg) (v1 v2 v3:Value),((((CatAt W w.heap.size (w.heap.size+2) (w.heap.size+1) L∧L.length≤128)∧RcAt w W (w.heap.size+3) R)∧Below w.heap.size w W)∧(W.cell? ⟨w.heap.size,0,none⟩=some (.slice ap Ps.length cp)∧w.heap.size<W.heap.size))→PgAt w P v1 v2 v3→lH P→Calls Tryz.prog 13 #[.pointer (some ⟨w.heap.size+3,0,none⟩),.agg #[.string P.nm,.int .i64 P.a,.int .i64 P.b,.int .i64 P.c,v1,v2,v3]] W fun e w'=>∃ R',e= .returned (.int .i64 (cD R P))∧PutL R R' P∧((((CatAt w' w.heap.size (w.heap.size+2) (w.heap.size+1) L∧L.length≤128)∧RcAt w w' (w.heap.size+3) R')∧Below w.heap.size w w')∧(w'.cell? ⟨w.heap.size,0,none⟩=some (.slice ap Ps.length cp)∧w.heap.size<w'.heap.size))):=fun W L R P v1 v2 v3 hk hp hok=>by
  refine (xG hk.1.1.2 hk.1.2 hp hok).mono ?_;rintro e w' ⟨R',rfl,hc,hq,hg⟩;obtain ⟨⟨vv,hv,_⟩,_⟩:=hk.1.1.2;exact ⟨R',rfl,hq,⟨⟨⟨hk.1.1.1.1.over hv (by decide) (by decide) (by omega) hg,hk.1.1.1.2⟩,hc⟩,hk.1.2.grown hg hk.1.2.size (fun j hj=>by cases hj;omega)⟩,(World.cell?_of_block (a:=⟨w.heap.size,0,none⟩) (hg.block w.heap.size hk.2.2 (fun q=>by have:=Option.some.inj q;omega))).trans hk.2.1,Nat.lt_of_lt_of_le hk.2.2 hg.size⟩
 have HTW:Hid (∀ (W:World) (L L' R R':List CV) (P:Pg),((((CatAt W w.heap.size (w.heap.size+2) (w.heap.size+1) L∧L.length≤128)∧RcAt w W (w.heap.size+3) R)∧Below w.heap.size w W)∧(W.cell? ⟨w.heap.size,0,none⟩=some (.slice ap Ps.length cp)∧w.heap.size<W.heap.size))→pF L R→PutL L L' P→PutL R R' P→pF L' R'):=fun W L L' R R' P hk ht h1 h2=>PutL.two (uR (nZ hk.1.1.1.1.2.2.2) hk.1.1.2.2.2.1 ht) ht h1 h2
 have HEQ:Hid (∀ (W:World) (L R:List CV) (P:Pg),((((CatAt W w.heap.size (w.heap.size+2) (w.heap.size+1) L∧L.length≤128)∧RcAt w W (w.heap.size+3) R)∧Below w.heap.size w W)∧(W.cell? ⟨w.heap.size,0,none⟩=some (.slice ap Ps.length cp)∧w.heap.size<W.heap.size))→pF L R→cD R P=cD L P):=fun W L R P hk ht=>(zM (uR (nZ hk.1.1.1.1.2.2.2) hk.1.1.2.2.2.1 ht) ht P).symm
 clear hps hel hpo hs0 hs2 HC0 HR0
 go_enter Tryz.func25,Tryz.ntmps25
 go_wp2_with (go_at_call 9;refine HNW.out.mono ?_;rintro e w1 ⟨rfl,rfl⟩;clear HNW)
 generalize ((((w.alloc (.cells #[.slice ap Ps.length cp,.slice x1 y1 z1,.slice x2 y2 z2,.slice x3 y3 z3,.slice x4 y4 z4,.bool dv] 59)).alloc (.map #[] 0)).alloc (.cells #[.map (some (w.heap.size+1))] 83)).alloc (.cells #[.slice none 0 0] 28))=W at*
 go_loopw [7] (fun vi wr=>∃ (i:Nat) (L R:List CV),i≤Ps.length∧vi= .int .i64 i∧pF L R∧((((CatAt wr w.heap.size (w.heap.size+2) (w.heap.size+1) L∧L.length≤128)∧RcAt w wr (w.heap.size+3) R)∧Below w.heap.size w wr)∧(wr.cell? ⟨w.heap.size,0,none⟩=some (.slice ap Ps.length cp)∧w.heap.size<wr.heap.size))) (fun vi _=>Ps.length - (intOf vi).toNat)
 case atStart=>exact ⟨0,[],[],Nat.zero_le _,rfl,List.Perm.refl _,HK0.out⟩
 case round=>
  obtain ⟨i,L,R,hi,rfl,htw,hk⟩:=hrel;have HK:=aA hk;have HT:=aA htw;obtain ⟨_,b0,hlt0⟩:=hk;clear htw
  by_cases hlt:i<Ps.length
  · have hki:(i:Int)<(Ps.length:Int):=by omega
    obtain ⟨g,o,rfl,v1,v2,v3,⟨c0,c1,c2,c3,c4,c5,c6⟩,hpg,hgl⟩:=HEL.out i hlt;have hok:=HPO.out _ (List.getElem_mem hlt);obtain ⟨P,hP0⟩:∃ P,P=Ps[i]:=⟨_,rfl⟩;rw [←hP0] at c0 c1 c2 c3 hpg hok;clear hP0;have d0:=(HK.out.1.2.cell (p:=⟨g,o+i*7,none⟩) hgl).trans c0;have d1:=(HK.out.1.2.cell (p:=⟨g,o+i*7+1,none⟩) hgl).trans c1;have d2:=(HK.out.1.2.cell (p:=⟨g,o+i*7+2,none⟩) hgl).trans c2;have d3:=(HK.out.1.2.cell (p:=⟨g,o+i*7+3,none⟩) hgl).trans c3;have d4:=(HK.out.1.2.cell (p:=⟨g,o+i*7+4,none⟩) hgl).trans c4;have d5:=(HK.out.1.2.cell (p:=⟨g,o+i*7+5,none⟩) hgl).trans c5;have d6:=(HK.out.1.2.cell (p:=⟨g,o+i*7+6,none⟩) hgl).trans c6;obtain ⟨⟨f1,n1,k1,rfl⟩,⟨f2,n2,k2,rfl⟩,f3,n3,k3,rfl⟩:=dC hpg;have HPG:=aA hpg;have HOK:=aA hok;clear hpg hok;obtain ⟨r,hr⟩:∃ r,r=cD L P:=⟨_,rfl⟩
    have HP1:Hid (∀ (W:World) (R1:List CV),((((CatAt W w.heap.size (w.heap.size+2) (w.heap.size+1) L∧L.length≤128)∧RcAt w W (w.heap.size+3) R1)∧Below w.heap.size w W)∧(W.cell? ⟨w.heap.size,0,none⟩=some (.slice (some ⟨g,o,none⟩) Ps.length cp)∧w.heap.size<W.heap.size))→Calls Tryz.prog 12 #[.pointer (some ⟨w.heap.size+2,0,none⟩),.agg #[.string P.nm,.int .i64 P.a,.int .i64 P.b,.int .i64 P.c,.slice f1 n1 k1,.slice f2 n2 k2,.slice f3 n3 k3]] W fun e w'=>∃ L',e= .returned (.int .i64 r)∧PutL L L' P∧((((CatAt w' w.heap.size (w.heap.size+2) (w.heap.size+1) L'∧L'.length≤128)∧RcAt w w' (w.heap.size+3) R1)∧Below w.heap.size w w')∧(w'.cell? ⟨w.heap.size,0,none⟩=some (.slice (some ⟨g,o,none⟩) Ps.length cp)∧w.heap.size<w'.heap.size))):=fun W R1 h=>by rw [hr];exact HPC.out W L R1 P _ _ _ h HPG.out
    have HR1:Hid (∀ (W:World) (L1:List CV),((((CatAt W w.heap.size (w.heap.size+2) (w.heap.size+1) L1∧L1.length≤128)∧RcAt w W (w.heap.size+3) R)∧Below w.heap.size w W)∧(W.cell? ⟨w.heap.size,0,none⟩=some (.slice (some ⟨g,o,none⟩) Ps.length cp)∧w.heap.size<W.heap.size))→Calls Tryz.prog 13 #[.pointer (some ⟨w.heap.size+3,0,none⟩),.agg #[.string P.nm,.int .i64 P.a,.int .i64 P.b,.int .i64 P.c,.slice f1 n1 k1,.slice f2 n2 k2,.slice f3 n3 k3]] W fun e w'=>∃ R',e= .returned (.int .i64 r)∧PutL R R' P∧((((CatAt w' w.heap.size (w.heap.size+2) (w.heap.size+1) L1∧L1.length≤128)∧RcAt w w' (w.heap.size+3) R')∧Below w.heap.size w w')∧(w'.cell? ⟨w.heap.size,0,none⟩=some (.slice (some ⟨g,o,none⟩) Ps.length cp)∧w.heap.size<w'.heap.size))):=fun W L1 h=>by rw [hr,←HEQ.out wr L R P HK.out HT.out];exact HPR.out W L1 R P _ _ _ h HPG.out HOK.out
    have HKd:Hid ((((CatAt wr.drew w.heap.size (w.heap.size+2) (w.heap.size+1) L∧L.length≤128)∧RcAt w wr.drew (w.heap.size+3) R)∧Below w.heap.size w wr.drew)∧(wr.drew.cell? ⟨w.heap.size,0,none⟩=some (.slice (some ⟨g,o,none⟩) Ps.length cp)∧w.heap.size<wr.drew.heap.size)):=⟨⟨⟨⟨HK.out.1.1.1.1.below (Below.refl _ _).drew,HK.out.1.1.1.2⟩,HK.out.1.1.2.below (Below.refl _ _).drew⟩,HK.out.1.2.drew⟩,HK.out.2⟩;clear hr
    go_wp2_with fail
    go_region_held3 (fun w'=>w'.cell? ⟨w.heap.size,0,none⟩=some (.slice (some ⟨g,o,none⟩) Ps.length cp)∧w'.cell? ⟨g,o+i*7,none⟩=some (.string P.nm)∧w'.cell? ⟨g,o+i*7+1,none⟩=some (.int .i64 P.a)∧w'.cell? ⟨g,o+i*7+2,none⟩=some (.int .i64 P.b)∧w'.cell? ⟨g,o+i*7+3,none⟩=some (.int .i64 P.c)∧w'.cell? ⟨g,o+i*7+4,none⟩=some (.slice f1 n1 k1)∧w'.cell? ⟨g,o+i*7+5,none⟩=some (.slice f2 n2 k2)∧w'.cell? ⟨g,o+i*7+6,none⟩=some (.slice f3 n3 k3)) (go_keep) (first
     |(have _t:=HQ4;go_at_call 13;refine (HR1.out _ _ HK4.out).mono ?_;rintro e w5 ⟨R',rfl,hq5,hk5⟩;have HK5:=aA hk5;have HQ5:=aA hq5;clear hk5 hq5;clear d0 d1 d2 d3 d4 d5 d6;have d0:=(HK5.out.1.2.cell (p:=⟨g,o+i*7,none⟩) hgl).trans c0;have d1:=(HK5.out.1.2.cell (p:=⟨g,o+i*7+1,none⟩) hgl).trans c1;have d2:=(HK5.out.1.2.cell (p:=⟨g,o+i*7+2,none⟩) hgl).trans c2;have d3:=(HK5.out.1.2.cell (p:=⟨g,o+i*7+3,none⟩) hgl).trans c3;have d4:=(HK5.out.1.2.cell (p:=⟨g,o+i*7+4,none⟩) hgl).trans c4;have d5:=(HK5.out.1.2.cell (p:=⟨g,o+i*7+5,none⟩) hgl).trans c5;have d6:=(HK5.out.1.2.cell (p:=⟨g,o+i*7+6,none⟩) hgl).trans c6;have b0:=HK5.out.2.1)
     |(have _t:=HQ5;go_at_call 12;refine (HP1.out _ _ HK4.out).mono ?_;rintro e w5 ⟨L',rfl,hq4,hk5⟩;have HK5:=aA hk5;have HQ4:=aA hq4;clear hk5 hq4;clear d0 d1 d2 d3 d4 d5 d6;have d0:=(HK5.out.1.2.cell (p:=⟨g,o+i*7,none⟩) hgl).trans c0;have d1:=(HK5.out.1.2.cell (p:=⟨g,o+i*7+1,none⟩) hgl).trans c1;have d2:=(HK5.out.1.2.cell (p:=⟨g,o+i*7+2,none⟩) hgl).trans c2;have d3:=(HK5.out.1.2.cell (p:=⟨g,o+i*7+3,none⟩) hgl).trans c3;have d4:=(HK5.out.1.2.cell (p:=⟨g,o+i*7+4,none⟩) hgl).trans c4;have d5:=(HK5.out.1.2.cell (p:=⟨g,o+i*7+5,none⟩) hgl).trans c5;have d6:=(HK5.out.1.2.cell (p:=⟨g,o+i*7+6,none⟩) hgl).trans c6;have b0:=HK5.out.2.1)
     |(go_at_call 12;refine (HP1.out _ _ HKd.out).mono ?_;rintro e w4 ⟨L',rfl,hq4,hk4⟩;have HK4:=aA hk4;have HQ4:=aA hq4;clear hk4 hq4;clear d0 d1 d2 d3 d4 d5 d6;have d0:=(HK4.out.1.2.cell (p:=⟨g,o+i*7,none⟩) hgl).trans c0;have d1:=(HK4.out.1.2.cell (p:=⟨g,o+i*7+1,none⟩) hgl).trans c1;have d2:=(HK4.out.1.2.cell (p:=⟨g,o+i*7+2,none⟩) hgl).trans c2;have d3:=(HK4.out.1.2.cell (p:=⟨g,o+i*7+3,none⟩) hgl).trans c3;have d4:=(HK4.out.1.2.cell (p:=⟨g,o+i*7+4,none⟩) hgl).trans c4;have d5:=(HK4.out.1.2.cell (p:=⟨g,o+i*7+5,none⟩) hgl).trans c5;have d6:=(HK4.out.1.2.cell (p:=⟨g,o+i*7+6,none⟩) hgl).trans c6;have b0:=HK4.out.2.1)
     |(go_at_call 13;refine (HR1.out _ _ HKd.out).mono ?_;rintro e w4 ⟨R',rfl,hq5,hk4⟩;have HK4:=aA hk4;have HQ5:=aA hq5;clear hk4 hq5;clear d0 d1 d2 d3 d4 d5 d6;have d0:=(HK4.out.1.2.cell (p:=⟨g,o+i*7,none⟩) hgl).trans c0;have d1:=(HK4.out.1.2.cell (p:=⟨g,o+i*7+1,none⟩) hgl).trans c1;have d2:=(HK4.out.1.2.cell (p:=⟨g,o+i*7+2,none⟩) hgl).trans c2;have d3:=(HK4.out.1.2.cell (p:=⟨g,o+i*7+3,none⟩) hgl).trans c3;have d4:=(HK4.out.1.2.cell (p:=⟨g,o+i*7+4,none⟩) hgl).trans c4;have d5:=(HK4.out.1.2.cell (p:=⟨g,o+i*7+5,none⟩) hgl).trans c5;have d6:=(HK4.out.1.2.cell (p:=⟨g,o+i*7+6,none⟩) hgl).trans c6;have b0:=HK4.out.2.1))
    all_goals go_wp2_with fail
    all_goals exact ⟨⟨i+1,L',R',by omega,by go_num,HTW.out wr L L' R R' P HK.out HT.out HQ4.out HQ5.out,HK5.out⟩,by simp [intOf];omega⟩
  · obtain rfl:i=Ps.length:=by omega
    have hki:¬ ((Ps.length:Int)<(Ps.length:Int)):=by omega
    go_wp2_with fail
    go_ret3;exact ⟨_,_,_,L,R,rfl,HK.out.1.1.1,HK.out.1.1.2,HT.out,HK.out.1.2⟩
end Go.Proofs.YtpfemjlhklnfoaaGreatDoor
namespace Go.Proofs.YtpfemjlhklnfoaaGreatDoor
open Go.Shelf Go.RowKit Go.Lib Go.Sort
set_option maxRecDepth 100000
def nmQ (x:Pn):List UInt8:=x.nm.data.toList
def vcQ (x:Pn):Vn:=⟨x.a,x.b,x.c⟩
def LQ (x y:Pn):Int:=if Lib.compareBytes (nmQ x) (nmQ y)=0 then MS (vcQ y) (vcQ x) else Lib.compareBytes (nmQ x) (nmQ y)
def ltQ (x y:Pn):Bool:=bytesBefore (nmQ x) (nmQ y)||(decide (nmQ x=nmQ y)&&gtV (vcQ y) (vcQ x))
theorem sW (x y:Pn):ltOf LQ x y=ltQ x y:=by
 unfold ltOf LQ ltQ
 by_cases h:nmQ x=nmQ y
 · rw [if_pos ((jF _ _).2 h),decide_eq_true h,h,WideAt.bytes_irrefl,Bool.false_or,Bool.true_and,←ltG]
   rfl
 · rw [if_neg (fun q=>h ((jF _ _).1 q)),decide_eq_false h,Bool.false_and,Bool.or_false,Bool.eq_iff_iff,decide_eq_true_iff]
   exact jE _ _
theorem AG {x y:Pn}:ltQ x y=true↔bytesBefore (nmQ x) (nmQ y)=true∨(nmQ x=nmQ y∧gtV (vcQ y) (vcQ x)=true):=by
 unfold ltQ;rw [Bool.or_eq_true,Bool.and_eq_true,decide_eq_true_iff]
theorem IM {x y:Pn}:ltQ x y=false↔bytesBefore (nmQ x) (nmQ y)=false∧(nmQ x=nmQ y→gtV (vcQ y) (vcQ x)=false):=by
 rw [Bool.eq_false_iff,ne_eq,AG,not_or]
 constructor
 · rintro ⟨h1,h2⟩
   exact ⟨Bool.eq_false_iff.2 h1,fun e=>Bool.eq_false_iff.2 fun q=>h2 ⟨e,q⟩⟩
 · rintro ⟨h1,h2⟩
   exact ⟨Bool.eq_false_iff.1 h1,fun q=>by rw [h2 q.1] at q;cases q.2⟩
theorem OP:SWO (ltOf LQ) where
 irrefl x:=by rw [sW,IM];exact ⟨WideAt.bytes_irrefl _,fun _=>wH _⟩
 trans x y z h1 h2:=by
  rw [sW,AG] at*
  rcases h1 with h1|⟨e1,g1⟩
  · rcases h2 with h2|⟨e2,g2⟩
    · exact Or.inl (WideShapes.bytes_trans _ _ _ h1 h2)
    · exact Or.inl (e2 ▸ h1)
  · rcases h2 with h2|⟨e2,g2⟩
    · exact Or.inl (e1 ▸ h2)
    · exact Or.inr ⟨e1.trans e2,BO g2 g1⟩
 ntrans x y z h1 h2:=by
  rw [sW,IM] at*;refine ⟨fO h1.1 h2.1,fun e=> ?_⟩
  have e1:nmQ x=nmQ y:=by
   by_cases q:nmQ x=nmQ y
   · exact q
   · rcases WideAt.bytes_total _ _ q with r|r
     · rw [h1.1] at r;cases r
     · rw [e] at r;rw [h2.1] at r;cases r
  exact wI (h2.2 (e1 ▸ e)) (h1.2 e1)
set_option maxHeartbeats 3200000 in
theorem yC (s t:ByteArray) (a b c x y z:Int) (w:World):Calls Tryz.prog 76 #[.agg #[.string s,.int .i64 a,.int .i64 b,.int .i64 c],.agg #[.string t,.int .i64 x,.int .i64 y,.int .i64 z]] w fun e w'=>e= .returned (.int .i64 (if Lib.compareBytes s.data.toList t.data.toList=0 then bR a b c x y z else Lib.compareBytes s.data.toList t.data.toList))∧Gd w w':=by
 have HSC:Hid (∀ W,Calls Tryz.prog 105 #[.string s,.string t] W fun e w'=>e= .returned (.int .i64 (Lib.compareBytes s.data.toList t.data.toList))∧w'=W):=fun W=>Tryz.strings_Compare s t W
 have HGF:Hid (∀ W,Calls Tryz.prog 95 #[.agg #[.int .i64 a,.int .i64 b,.int .i64 c],.agg #[.int .i64 x,.int .i64 y,.int .i64 z]] W fun e w'=>e= .returned (.int .i64 (bR a b c x y z))∧Gd W w'):=wB a b c x y z;generalize Lib.compareBytes s.data.toList t.data.toList=r1 at*;generalize bR a b c x y z=r2 at*;have HOR:Hid (∀ W:World,Calls Tryz.prog 104 #[.slice (some ⟨W.heap.size,0,none⟩) 2 2] (W.alloc (.cells #[.int .i64 r1,.int .i64 r2] 3)) fun e w'=>e= .returned (.int .i64 (if r1=0 then r2 else r1))∧w'=(W.alloc (.cells #[.int .i64 r1,.int .i64 r2] 3))):=fun W=>MH (by simp) (by simp)
 generalize (if r1=0 then r2 else r1)=rr at*;have HG0:Hid (Gd w ((w.alloc (.cells #[.string s,.int .i64 a,.int .i64 b,.int .i64 c] 80)).alloc (.cells #[.string t,.int .i64 x,.int .i64 y,.int .i64 z] 80)).drew):=(Gd.box2 _ _ _).trans (Gd.drew _)
 have HCE:Hid (∀ W:World,Gd ((w.alloc (.cells #[.string s,.int .i64 a,.int .i64 b,.int .i64 c] 80)).alloc (.cells #[.string t,.int .i64 x,.int .i64 y,.int .i64 z] 80)).drew W→(W.cell? ⟨w.heap.size,0,none⟩=some (.string s)∧W.cell? ⟨w.heap.size,1,none⟩=some (.int .i64 a)∧W.cell? ⟨w.heap.size,2,none⟩=some (.int .i64 b)∧W.cell? ⟨w.heap.size,3,none⟩=some (.int .i64 c))∧W.cell? ⟨w.heap.size+1,0,none⟩=some (.string t)∧W.cell? ⟨w.heap.size+1,1,none⟩=some (.int .i64 x)∧W.cell? ⟨w.heap.size+1,2,none⟩=some (.int .i64 y)∧W.cell? ⟨w.heap.size+1,3,none⟩=some (.int .i64 z)):=fun W hg=>by
  have hb:=hg.below;have q:∀ (g i:Nat),g<w.heap.size+2→W.cell? ⟨g,i,none⟩=((w.alloc (.cells #[.string s,.int .i64 a,.int .i64 b,.int .i64 c] 80)).alloc (.cells #[.string t,.int .i64 x,.int .i64 y,.int .i64 z] 80)).cell? ⟨g,i,none⟩:=fun g i hg=>hb.cell (p:=⟨g,i,none⟩) (by simpa using hg)
  refine ⟨⟨?_,?_,?_,?_⟩,?_,?_,?_,?_⟩<;>rw [q _ _ (by omega)]<;>simp
 obtain ⟨⟨k0,k1,k2,k3⟩,j0,j1,j2,j3⟩:=HCE.out _ (Gd.refl _)
 go_enter Tryz.func76,Tryz.ntmps76
 go_wp2_with fail
 generalize ((w.alloc (.cells #[.string s,.int .i64 a,.int .i64 b,.int .i64 c] 80)).alloc (.cells #[.string t,.int .i64 x,.int .i64 y,.int .i64 z] 80))=W0 at*
 go_region_held3 (fun w'=>w'.cell? ⟨w.heap.size,0,none⟩=some (.string s)∧w'.cell? ⟨w.heap.size,1,none⟩=some (.int .i64 a)∧w'.cell? ⟨w.heap.size,2,none⟩=some (.int .i64 b)∧w'.cell? ⟨w.heap.size,3,none⟩=some (.int .i64 c)∧w'.cell? ⟨w.heap.size+1,0,none⟩=some (.string t)∧w'.cell? ⟨w.heap.size+1,1,none⟩=some (.int .i64 x)∧w'.cell? ⟨w.heap.size+1,2,none⟩=some (.int .i64 y)∧w'.cell? ⟨w.heap.size+1,3,none⟩=some (.int .i64 z)) (go_keep) (first
  |(go_at_call 105;refine (HSC.out _).mono ?_;rintro e w1 ⟨rfl,rfl⟩)
  |(go_at_call 95;refine (HGF.out _).mono ?_;rintro e w2 ⟨rfl,hg⟩;have HG2:=aA hg;obtain ⟨⟨k0,k1,k2,k3⟩,j0,j1,j2,j3⟩:=HCE.out _ hg;clear hg)
  |(go_at_call 104;refine (HOR.out w2).mono ?_;rintro e w3 ⟨rfl,rfl⟩))
 all_goals go_wp2
 all_goals go_ret
 all_goals exact ⟨rfl,(HG0.out.trans HG2.out).trans (Gd.box _ _)⟩
theorem DS {w:World} {base:Nat} {v:Value} {V:List Pn} (hown:OwnPn w base v V) (hz:V.length≤100000000000000):
 Calls Tryz.prog 75 #[v,.func (.func 76) #[] #[]] w fun e w'=>e= .returned (.tuple #[])∧∃ ts:List Pn,ts.Perm V∧(ts.Pairwise fun x y=>ltQ y x=false)∧OwnPn w' base v ts∧w.grownBy w' v.ownBlock:=by
 haveI:Inhabited Pn:=⟨⟨⟨#[]⟩,0,0,0⟩⟩
 have eg:∀ args w,(callFunc 76 args).run Tryz.prog w= .ok (.enter 76 args) w:=enters_of Tryz.func76 (by kernel_rfl) rfl;have h:=tJ Tryz.sortP 4 (by decide) Tryz.isAgg80 Tryz.sizeOf80 bD (fun _=>rfl) (fun x v hv=>by simp [bD] at hv;rcases hv with rfl|rfl|rfl|rfl<;>rfl) LQ OP 76 eg (fun x y W=>yC _ _ _ _ _ _ _ _ W) hown (by omega);simp only [sW] at h;exact h
end Go.Proofs.YtpfemjlhklnfoaaGreatDoor
namespace Go.Proofs.YtpfemjlhklnfoaaGreatDoor
open Go.Shelf Go.RowKit Go.Lib Go.Sort Go.Maps Go.WideMaps
set_option maxRecDepth 100000
def dqr:Pn→List Pn→List Pn
 |_,[]=>[]
 |p,y::r=>if dB y p=true then dqr y r else y::dqr y r
def dq:List Pn→List Pn
 |[]=>[]
 |x::r=>x::dqr x r
theorem vT {ts:List Pn} (h:ts.length<2):dq ts=ts:=by
 match ts,h with
 |[],_=>rfl
 |[x],_=>rfl
 |_::_::_,h=>simp at h;omega
def dA (G:List Nd) (k:Nat):List Pn:=((G.take k).drop 1).map fD
theorem yD {G:List Nd} {k:Nat} (hk:k<G.length) (h0:0<k):dA G (k+1)=dA G k++[fD G[k]]:=by
 unfold dA;rw [List.take_succ_eq_append_getElem hk,List.drop_append_of_le_length (by rw [List.length_take];omega),List.map_append];rfl
theorem rD (G:List Nd) (k:Nat):(dA G k).length≤k - 1:=by
 unfold dA;rw [List.length_map,List.length_drop,List.length_take];omega
def LZ (w:World) (n:Nat):Prop:=∀ w1 B v ts,w.heap.size≤B→B≤w1.heap.size→OwnPn w1 B v ts→ts.length≤n - 1→Calls Tryz.prog 77 #[v] w1 fun e w'=>∃ v',e= .returned v'∧OwnPn w' B v' (dq ts)∧Below B w1 w'
def MA (w:World) (G:List Nd) (e:Ending) (w':World):Prop:=∃ v us,e= .returned v∧(us.Perm (dA G G.length)∧us.Pairwise fun x y=>ltQ y x=false)∧OwnPn w' w.heap.size v (dq us)∧Below w.heap.size w w'
theorem OwnPn.belowG {w w':World} {B:Nat} {v:Value} {l:List Pn} (h:OwnPn w B v l) (hb:Below w.heap.size w w'):OwnPn w' B v l:=bG h hb
theorem OwnPn.lenG {w:World} {B:Nat} {v:Value} {l:List Pn} (h:OwnPn w B v l):∃ ad cap,v= .slice ad l.length cap:=by
 rcases h.2 with ⟨rfl,hn⟩|⟨g,cap,cur,rfl,_⟩
 · exact ⟨none,0,by rw [hn]⟩
 · exact ⟨_,cap,rfl⟩
theorem yE (p:Pn):∀ u ∈ bD p,u.oneCell'=true:=fun u hu=>by
 simp [bD] at hu
 rcases hu with rfl|rfl|rfl|rfl<;>rfl
theorem NJ (l:List Pn):∀ x ∈ dq l,x ∈ l:=by
 have h:∀ (r:List Pn) (p x:Pn),x ∈ dqr p r→x ∈ r:=fun r=>by
  induction r with
  |nil=>intro p x hx;cases hx
  |cons y r ih=>
   intro p x hx;unfold dqr at hx
   split at hx
   · exact List.mem_cons_of_mem _ (ih _ _ hx)
   · rcases List.mem_cons.1 hx with rfl|hx
     · exact List.mem_cons_self
     · exact List.mem_cons_of_mem _ (ih _ _ hx)
 cases l with
 |nil=>intro x hx;cases hx
 |cons y r=>
  intro x hx
  rcases List.mem_cons.1 hx with rfl|hx
  · exact List.mem_cons_self
  · exact List.mem_cons_of_mem _ (h r y x hx)
set_option maxHeartbeats 12800000 in
theorem IP {G:List Nd} {v:Value} {w:World} (hG:NodesAt w v G) (hB:GrB G) (hN:∀ n ∈ G,n.nm.size≤281474976710656) (hzp:G.length≤1000000000000) (hcm:LZ w G.length):
 Calls Tryz.prog 35 #[.agg #[v]] w fun e w'=>MA w G e w':=by
 obtain ⟨ad,cap,rfl,hcap,hl⟩:=hG
 have HEL:Hid (∀ k (h:k<G.length),∃ g o,ad=some ⟨g,o,none⟩∧∃ vc ve,NdIn w g (o+k*6) G[k] vc ve):=fun k hk=>by
  rcases hl with e|⟨g,o,e,_,hs⟩
  · rw [e] at hk;cases hk
  · exact ⟨g,o,e,hs k hk⟩
 have HN:=aA hN;have HCM:=aA hcm;have HB0:Hid (Below w.heap.size w (w.alloc (.cells #[.slice ad G.length cap] 55))):=aD _ _;have HPO:=aA (fun (n:Nd) (vc ve:Value) (h1:∃ ad n cap,vc= .slice ad n cap) (h2:∃ ad n cap,ve= .slice ad n cap) (w1:World)=>lK (s:=n.nm) (a:=n.a) (b:=n.b) (c:=n.c) (w:=w1) h1 h2);have HSO:=aA (fun (w1:World) (v1:Value) (V:List Pn) (h1:OwnPn w1 w.heap.size v1 V) (h2:V.length≤100000000000000)=>DS h1 h2);have HSC:Hid (∀ (s:ByteArray) (W:World),s.size≤281474976710656→Calls Tryz.prog 78 #[.string s] W fun e w'=>e= .returned (.string s)∧Below W.heap.size W w'):=fun s W hs=>eM s hs W
 have hgl:=hB.1.1;clear hl hN hB hcm
 go_enter Tryz.func35,Tryz.ntmps35
 go_wp2_with fail
 go_loopw [3,11] (fun v3 vi wr=>∃ (k:Nat) (al:Option Addr) (cl:Nat),k≤G.length∧v3= .slice al (dA G k).length cl∧vi= .int .i64 k∧OwnPn wr w.heap.size (.slice al (dA G k).length cl) (dA G k)∧Below w.heap.size w wr) (fun _ vi _=>G.length - (intOf vi).toNat)
 case atStart=>exact ⟨0,none,0,Nat.zero_le _,rfl,rfl,OwnPn.nil _ _,HB0.out⟩
 case round=>
  clear HB0;obtain ⟨k,al,cl,hk,rfl,rfl,ho,hb⟩:=hrel;have HO:=aA ho;have HB:=aA hb
  by_cases hlt:k<G.length
  · obtain ⟨g,o,rfl,vc,ve,hx⟩:=HEL.out k hlt
    have hx1:=hx.below hb;obtain ⟨av,cv,rfl⟩:=hx.2.1.1.sl;obtain ⟨ae,ce,rfl⟩:=hx.2.1.2.sl;have HPX:Hid (∀ w1,Calls Tryz.prog 74 #[.agg #[.string G[k].nm,.int .i64 G[k].a,.int .i64 G[k].b,.int .i64 G[k].c,.slice av G[k].cx.length cv,.slice ae G[k].ed.length ce]] w1 fun e w'=>e= .returned (.agg #[.string G[k].nm,.int .i64 G[k].a,.int .i64 G[k].b,.int .i64 G[k].c])∧Below w1.heap.size w1 w'):=fun w1=>HPO.out G[k] _ _ ⟨_,_,_,rfl⟩ ⟨_,_,_,rfl⟩ w1
    obtain ⟨⟨x0,x1,x2,x3,x4,x5⟩,_,x6⟩:=hx1;have hkl:(k:Int)<G.length:=by omega
    clear hx
    rcases Nat.eq_zero_or_pos k with h0|h0
    · have hd0:¬ 0<k:=by omega
      have e1:dA G (k+1)=dA G k:=by
       subst h0;unfold dA;cases G with
       |nil=>rfl
       |cons a r=>simp
      have HR:Hid (OwnPn (wr.alloc (.cells #[.string G[k].nm,.int .i64 G[k].a,.int .i64 G[k].b,.int .i64 G[k].c,.slice av G[k].cx.length cv,.slice ae G[k].ed.length ce] 67)) w.heap.size (.slice al (dA G k).length cl) (dA G k)):=ho.belowG (aD _ _);have HE1:=aA e1;clear ho hb h0 e1;generalize hS:dA G k=S at*;generalize G[k]=x at*;generalize x.cx.length=l1 at*;generalize x.ed.length=l2 at*
      go_wp2_with fail
      exact ⟨⟨k+1,al,cl,by omega,by rw [HE1.out],by go_num,by rw [HE1.out];exact HR.out,aB HB.out (aD _ _)⟩,by simp [intOf];omega⟩
    · have hk0:(0:Int)<(k:Int):=by omega
      have HNX:Hid (dA G (k+1)=dA G k++[fD G[k]]):=yD hlt h0;have hpl:=rD G k;have HBX:Hid (Below w.heap.size w (wr.alloc (.cells #[.string G[k].nm,.int .i64 G[k].a,.int .i64 G[k].b,.int .i64 G[k].c,.slice av G[k].cx.length cv,.slice ae G[k].ed.length ce] 67))∧OwnPn (wr.alloc (.cells #[.string G[k].nm,.int .i64 G[k].a,.int .i64 G[k].b,.int .i64 G[k].c,.slice av G[k].cx.length cv,.slice ae G[k].ed.length ce] 67)) w.heap.size (.slice al (dA G k).length cl) (dA G k)):=⟨aB hb (aD _ _),ho.belowG (aD _ _)⟩;have hnd:fD G[k]=⟨G[k].nm,G[k].a,G[k].b,G[k].c⟩:=rfl;rw [hnd] at HNX;clear hnd ho hb;generalize G[k]=x at*;generalize hS:dA G k=S at*;generalize x.cx.length=l1 at*;generalize x.ed.length=l2 at*
      go_wp2_with (first
       |(go_at_call 74;refine (HPX.out _).mono ?_;rintro e w1 ⟨rfl,ok⟩;have HB1:Hid (Below w.heap.size w w1∧OwnPn w1 w.heap.size (.slice al S.length cl) S):=⟨aB HBX.out.1 ok,HBX.out.2.belowG ok⟩;have HB2:Hid (Below w.heap.size w (w1.alloc (.cells #[.string x.nm,.int .i64 x.a,.int .i64 x.b,.int .i64 x.c] 80))∧World.ownsRow (w1.alloc (.cells #[.string x.nm,.int .i64 x.a,.int .i64 x.b,.int .i64 x.c] 80)) w.heap.size 80 4 (.slice al S.length cl) S.length (S.flatMap bD)):=⟨aB HB1.out.1 (aD _ _),HB1.out.2.belowG (aD _ _)⟩;have HNW:Hid (∀ j u,(bD ⟨x.nm,x.a,x.b,x.c⟩)[j]? =some u→(w1.alloc (.cells #[.string x.nm,.int .i64 x.a,.int .i64 x.b,.int .i64 x.c] 80)).cell? ((⟨w1.heap.size,0,none⟩:Addr).add j)=some u):=(fun j u hu=>by
          rcases j with _|_|_|_|j<;>simp [bD] at hu<;>subst hu<;>simp [Addr.add]);clear ok)
       |(at_builtin;refine sH (B:=w.heap.size) (n:=S.length) (m:=1) (news:=bD ⟨x.nm,x.a,x.b,x.c⟩) gV Tryz.underlying40 rfl (by decide) rfl _ _ rfl rfl HB2.out.2 HB2.out.1.size rfl rfl HNW.out (yE _) (by omega) (by omega) ?_;intro v1 w2 ho hgr hat;have HO2:Hid (OwnPn w2 w.heap.size v1 (S++[⟨x.nm,x.a,x.b,x.c⟩])∧Below w.heap.size w w2):=(by
          refine ⟨?_,HB2.out.1.grown hgr HB2.out.1.size (fun k hk=>(World.ownsRow.lt HB2.out.2 k hk).1)⟩;unfold OwnPn;rw [List.length_append,List.flatMap_append]
          simpa using ho);obtain ⟨al2,cl2,rfl⟩:=HO2.out.1.lenG;clear ho hgr hat))
      exact ⟨⟨k+1,al2,cl2,by omega,by rw [HNX.out,List.length_append];rfl,by go_num,by rw [HNX.out];exact HO2.out.1,HO2.out.2⟩,by simp [intOf];omega⟩
  · have hke:k=G.length:=by omega
    subst hke;have hpl:=rD G G.length;have hlt2:¬ ((G.length:Int)<(G.length:Int)):=by omega
    have HSX:=aA (HSO.out wr _ _ ho (by omega));clear ho hb;generalize hS:dA G G.length=S at*
    go_wp2_with (first
     |(go_at_call 75;refine HSX.out.mono ?_;rintro e w1 ⟨rfl,us,hp,hs,ho1,hg1⟩;have HP1:=aA hp;have HS1:=aA hs;have hul:=hp.length_eq;have HO1:Hid (OwnPn w1 w.heap.size (.slice al us.length cl) us∧Below w.heap.size w w1):=(by
        refine ⟨by rw [←hul] at ho1;exact ho1,HB.out.grown hg1 HB.out.size (fun k hk=>(World.ownsRow.lt HO.out k hk).1)⟩);have HCX:=aA (HCM.out w1 w.heap.size _ us (Nat.le_refl _) HO1.out.2.size HO1.out.1 (by omega));rw [hul] at HCX;clear hp hs ho1 hg1)
     |(go_at_call 77;refine HCX.out.mono ?_;rintro e w2 ⟨v2,rfl,ho2,hb2⟩;have HO2:Hid (OwnPn w2 w.heap.size v2 (dq us)∧Below w.heap.size w w2):=⟨ho2,HO1.out.2.trans hb2⟩;obtain ⟨a2,c2,rfl⟩:=ho2.lenG;clear ho2 hb2))
    generalize hD:dq us=D at*
    have HND:Hid (∀ d ∈ D,d.nm.size≤281474976710656):=fun d hd=>by
     rw [←hD] at hd;have h1:=HP1.out.mem_iff.1 (NJ us d hd);rw [←hS] at h1;unfold dA at h1;obtain ⟨x,hx,rfl⟩:=List.mem_map.1 h1;exact HN.out x (List.mem_of_mem_take (List.mem_of_mem_drop hx))
    have hDl:D.length≤1000000000000:=by
     have h1:∀ (r:List Pn) (p:Pn),(dqr p r).length≤r.length:=fun r=>by
      induction r with
      |nil=>intro p;exact Nat.le_refl _
      |cons y r ih=>
       intro p;unfold dqr
       split
       · exact Nat.le_trans (ih y) (Nat.le_succ _)
       · rw [List.length_cons,List.length_cons]
         exact Nat.succ_le_succ (ih y)
     have h2:(dq us).length≤us.length:=by
      cases us with
      |nil=>exact Nat.le_refl _
      |cons y r=>
       show (y::dqr y r).length≤_;rw [List.length_cons,List.length_cons];exact Nat.succ_le_succ (h1 r y)
     rw [hD] at h2;omega
    have HQF:Hid (∀ w',OwnPn w' w.heap.size (.slice a2 D.length c2) D→Below w.heap.size w w'→MA w G (.returned (.slice a2 D.length c2)) w'):=fun w' h1 h2=>⟨_,us,rfl,⟨by rw [hS];exact HP1.out,HS1.out⟩,by rw [hD];exact h1,h2⟩
    clear hD hS HP1 HS1 HSX
    go_loopw [30] (fun vi wq=>∃ i:Nat,i≤D.length∧vi= .int .i64 i∧OwnPn wq w.heap.size (.slice a2 D.length c2) D∧Below w.heap.size w wq) (fun vi _=>D.length - (intOf vi).toNat)
    case atStart=>exact ⟨0,Nat.zero_le _,rfl,HO2.out⟩
    case round=>
     clear HO2;obtain ⟨i,hi,rfl,ho,hb⟩:=hrel;have HOR:=aA ho;have HBR:=aA hb
     by_cases hil:i<D.length
     · obtain ⟨g2,cap2,hg2,hgl2,hv2,hc2,hpi⟩:=fV ho i hil
       cases hv2;have hsz:=HND.out _ (List.getElem_mem hil);have HSL:Hid ((D.flatMap bD)[i*4]? =some (.string D[i].nm)):=(uD D i hil).1
       have HFZ:Hid (∀ w3,OwnPn w3 w.heap.size (.slice (some ⟨g2,0,none⟩) D.length c2) D→w3.frozen? ⟨g2,i*4,none⟩=false∧w3.cell? ⟨g2,i*4,none⟩=some (.string D[i].nm)):=fun w3 h3=>by
        obtain ⟨g4,cap4,_,_,hv4,_,⟨q0,_⟩,_⟩:=fV h3 i hil;cases hv4;refine ⟨?_,q0⟩
        rcases h3.2 with ⟨e,_⟩|⟨g',cap',cur,hv,_,hgg,_⟩
        · cases e
        · cases hv
          simp [World.frozen?,hgg]
       have hii:(i:Int)<D.length:=by omega
       have hi0:(0:Int)≤i:=by omega
       have HOB:Hid (OwnPn (wr.alloc (.cells #[.string D[i].nm,.int .i64 D[i].a,.int .i64 D[i].b,.int .i64 D[i].c] 80)) w.heap.size (.slice (some ⟨g2,0,none⟩) D.length c2) D∧Below w.heap.size w (wr.alloc (.cells #[.string D[i].nm,.int .i64 D[i].a,.int .i64 D[i].b,.int .i64 D[i].c] 80))):=⟨ho.belowG (aD _ _),aB hb (aD _ _)⟩
       have HNXT:Hid (∀ w5,OwnPn w5 w.heap.size (.slice (some ⟨g2,0,none⟩) D.length c2) D→Below w.heap.size w w5→OwnPn (w5.setCell ⟨g2,i*4,none⟩ (.string D[i].nm)) w.heap.size (.slice (some ⟨g2,0,none⟩) D.length c2) D∧Below w.heap.size w (w5.setCell ⟨g2,i*4,none⟩ (.string D[i].nm))):=fun w5 h1 h2=>by
        obtain ⟨q1,q2⟩:=World.ownsRow.stored h1 (i*4) (.string D[i].nm);refine ⟨?_,h2.grown q2 h2.size (fun k hk=>by cases hk;exact hg2)⟩
        have e:(D.flatMap bD).set (i*4) (.string D[i].nm)=D.flatMap bD:=by
         obtain ⟨hlt,he⟩:=List.getElem?_eq_some_iff.1 HSL.out;rw [←he];exact List.set_getElem_self hlt
        rw [e] at q1;exact q1
       obtain ⟨⟨p0,p1,p2,p3⟩,p4⟩:=hpi;clear ho hb;generalize D[i]=d at*
       go_wp2_with (go_at_call 78;refine (HSC.out _ _ hsz).mono ?_;rintro e w5 ⟨rfl,ok⟩;have HO5:Hid (OwnPn w5 w.heap.size (.slice (some ⟨g2,0,none⟩) D.length c2) D∧Below w.heap.size w w5):=⟨HOB.out.1.belowG ok,aB HOB.out.2 ok⟩;obtain ⟨f0,k0⟩:=HFZ.out w5 HO5.out.1;clear ok)
       have HF:=aA (HNXT.out w5 HO5.out.1 HO5.out.2);exact ⟨⟨i+1,by omega,by go_num,HF.out.1,HF.out.2⟩,by simp [intOf];omega⟩
     · have hie:i=D.length:=by omega
       subst hie;have HF:=aA (HQF.out wr ho hb);clear ho hb
       go_wp2
       go_ret;exact HF.out
end Go.Proofs.YtpfemjlhklnfoaaGreatDoor
namespace Go.Proofs.YtpfemjlhklnfoaaGreatDoor
open Go.Shelf Go.RowKit Go.Maps Go.WideMaps
set_option maxRecDepth 100000
def lbB (s:ByteArray) (e:Eg):Bool:=decide (e.lb.toList=s.toList)
def toP (l:List Eg) (s:ByteArray):Int:=match l.find? (lbB s) with
 |some e=>e.to
 |none=> -1
theorem IQ {l:List Eg} {s:ByteArray} {k:Nat} (hk:k<l.length) (h:lbB s l[k]=true) (hall:∀ j (_:j<k) (h1:j<l.length),lbB s l[j]=false):toP l s=l[k].to:=by
 have e:l.find? (lbB s)=some l[k]:=by
  rw [List.find?_eq_some_iff_getElem];exact ⟨h,k,hk,rfl,fun j hj=>by rw [hall j hj (by omega)];rfl⟩
 unfold toP;rw [e]
theorem NK {l:List Eg} {s:ByteArray} (hall:∀ j (h1:j<l.length),lbB s l[j]=false):toP l s= -1:=by
 have e:l.find? (lbB s)=none:=by
  rw [List.find?_eq_none];intro x hx;obtain ⟨i,hi,rfl⟩:=List.getElem_of_mem hx;rw [hall i hi];exact Bool.false_ne_true
 unfold toP;rw [e]
set_option maxHeartbeats 3200000 in
theorem IR {n:Nd} {vc ve:Value} {s:ByteArray} {w:World} (hc:∃ ad k cap,vc= .slice ad k cap) (he:EdgesAt w ve n.ed) (hz:n.ed.length≤9223372036854775807):
 Calls Tryz.prog 39 #[.agg #[.string n.nm,.int .i64 n.a,.int .i64 n.b,.int .i64 n.c,vc,ve],.string s] w fun e w'=>e= .returned (.int .i64 (toP n.ed s))∧Below w.heap.size w w':=by
 have HS:Hid (∀ w1,Below w.heap.size w w1→EdgesAt w1 ve n.ed):=fun w1 hb=>he.below hb
 obtain ⟨ac,lc,cc,rfl⟩:=hc;obtain ⟨ae,ce,rfl⟩:=he.sl;have HB0:Hid (Below w.heap.size w (w.alloc (.cells #[.string n.nm,.int .i64 n.a,.int .i64 n.b,.int .i64 n.c,.slice ac lc cc,.slice ae n.ed.length ce] 67))∧BxNd (w.alloc (.cells #[.string n.nm,.int .i64 n.a,.int .i64 n.b,.int .i64 n.c,.slice ac lc cc,.slice ae n.ed.length ce] 67)) w.heap.size n (.slice ac lc cc) (.slice ae n.ed.length ce)):=⟨aD _ _,BxNd.new rfl n _ _⟩;clear he
 go_enter Tryz.func39,Tryz.ntmps39
 go_wp2_with fail
 go_loopw [5] (fun i wr=>∃ k:Nat,k≤n.ed.length∧i= .int .i64 k∧(Below w.heap.size w wr∧BxNd wr w.heap.size n (.slice ac lc cc) (.slice ae n.ed.length ce))∧∀ j (_:j<k) (h1:j<n.ed.length),lbB s n.ed[j]=false) (fun i _=>n.ed.length - (intOf i).toNat)
 case atStart=>exact ⟨0,Nat.zero_le _,rfl,HB0.out,fun j h=>by omega⟩
 case round=>
  clear HB0;obtain ⟨k,hk,rfl,hb,hall⟩:=hrel;have HALL:=aA hall;have HB:=aA hb;clear hall
  by_cases hlt:k<n.ed.length
  · have hki:(k:Int)<(n.ed.length:Int):=by omega
    obtain ⟨g,o,rfl,⟨⟨c0,c1⟩,c2⟩⟩:∃ g o,ae=some ⟨g,o,none⟩∧EgIn wr g (o+k*2) n.ed[k]:=by
     obtain ⟨ad',cap',e,_,hcs⟩:=HS.out wr hb.1;cases e
     rcases hcs with h|⟨g,o,h,_,hs⟩
     · rw [h] at hlt;simp at hlt
     · exact ⟨g,o,h,hs k hlt⟩
    have HY:Hid (lbB s n.ed[k]=true→toP n.ed s=n.ed[k].to):=fun h=>IQ hlt h HALL.out
    have HN:Hid (lbB s n.ed[k]=false→∀ j (_:j<k+1) (h1:j<n.ed.length),lbB s n.ed[j]=false):=fun h j hj h1=>by
     rcases Nat.lt_or_ge j k with hjk|hjk
     · exact HALL.out j hjk h1
     · obtain rfl:j=k:=by omega
       exact h
    obtain ⟨_,⟨y0,y1,y2,y3,y4,y5⟩,y6⟩:=hb;clear HALL;generalize n.ed[k]=x at*
    by_cases hq:x.lb.toList=s.toList
    · have HR:=aA (HY.out (decide_eq_true hq))
      have hd:(x.lb.toList==s.toList)=true:=by simpa using hq
      clear HY HN
      go_wp2
      go_ret;exact ⟨Sc.bE HR.out.symm,HB.out.1⟩
    · have HR:=aA (HN.out (decide_eq_false hq))
      have hd:(x.lb.toList==s.toList)=false:=by simpa using hq
      clear hq;clear HY HN
      go_wp2_with fail
      exact ⟨⟨k+1,by omega,by go_num,HB.out,HR.out⟩,by simp [intOf];omega⟩
  · obtain rfl:k=n.ed.length:=by omega
    have hki:¬ ((n.ed.length:Int)<(n.ed.length:Int)):=by omega
    have HR:Hid (toP n.ed s= -1):=NK fun j h1=>HALL.out j h1 h1
    obtain ⟨_,⟨y0,y1,y2,y3,y4,y5⟩,y6⟩:=hb;clear HALL
    go_wp2
    go_ret;exact ⟨Sc.bE HR.out.symm,HB.out.1⟩
theorem oY {n:Int}:∀ {L:List Eg} {s:ByteArray},Lo.iP n s L=true→(∀ e ∈ L,ltS s e.lb=true)∧L.Pairwise fun x y=>ltS x.lb y.lb=true
 |[],_,_=>⟨fun e he=>(by cases he),List.Pairwise.nil⟩
 |q::r,s,h=>by
  unfold Lo.iP Lo.oT at h;simp only [Bool.and_eq_true,decide_eq_true_eq] at h;obtain ⟨h1,h2⟩:=oY h.2;refine ⟨fun e he=> ?_,List.Pairwise.cons h1 h2⟩
  rcases List.mem_cons.1 he with rfl|he
  · exact h.1.1.1.2
  · exact lJ h.1.1.1.2 (h1 e he)
theorem IU {n:Int} {L:List Eg} (h:Lo.iP n ⟨#[]⟩ L=true) {e:Eg} (he:e ∈ L):toP L e.lb=e.to:=by
 obtain ⟨k,hk,rfl⟩:=List.getElem_of_mem he;refine IQ hk (decide_eq_true rfl) fun j hj h1=>decide_eq_false fun q=> ?_
 have hp:=List.pairwise_iff_getElem.1 (oY h).2 j k h1 hk hj;rw [Sc.bO q] at hp;exact absurd hp (by rw [zJ];exact Bool.false_ne_true)
theorem AH {G:List Nd} (h:Lo.dS G=true):∀ n ∈ G,Lo.iP (G.length:Int) ⟨#[]⟩ n.ed=true:=by
 cases G with
 |nil=>intro n hn;cases hn
 |cons x r=>
  unfold Lo.dS at h;simp only [Bool.and_eq_true,decide_eq_true_eq,List.all_eq_true] at h;intro n hn;have q:=h.2 n hn;unfold Lo.cF at q;simp only [Bool.and_eq_true,decide_eq_true_eq] at q;rw [List.length_cons];exact q.2
theorem NL {G:List Nd} (h:iO G=true) {n:Nd} (hn:n ∈ G) {e:Eg} (he:e ∈ n.ed):KP G e.to=e.lb:=by
 unfold iO at h;have q:=List.all_eq_true.1 (List.all_eq_true.1 h n hn) e he;unfold iN at q;exact Sc.bO (of_decide_eq_true q)
theorem rE:∀ {G A:List Nd},eG A G=false→(∀ n ∈ G,∀ x ∈ A,fE x n=false)∧G.Pairwise fun x y=>fE x y=false
 |[],_,_=>⟨fun n hn=>(by cases hn),List.Pairwise.nil⟩
 |n::r,A,h=>by
  unfold eG at h;rw [Bool.or_eq_false_iff] at h;obtain ⟨h1,h2⟩:=rE h.2;refine ⟨fun m hm x hx=> ?_,List.Pairwise.cons (fun m hm=>h1 m hm n (by simp)) h2⟩
  rcases List.mem_cons.1 hm with rfl|hm
  · exact Bool.eq_false_iff.2 fun q=>by rw [List.any_eq_false] at h;exact h.1 x hx q
  · exact h1 m hm x (List.mem_append_left _ hx)
theorem IV (x y:Nd):fE x y=fE y x:=by
 rw [Bool.eq_iff_iff,kI,kI];exact ⟨fun h=>⟨h.1.symm,h.2.symm⟩,fun h=>⟨h.1.symm,h.2.symm⟩⟩
theorem vU {G:List Nd} (h:eG [] G=false) {i k:Nat} (hi:i<G.length) (hk:k<G.length) (hne:k≠i):fE G[k] G[i]=false:=by
 have hp:=List.pairwise_iff_getElem.1 (rE h).2
 rcases Nat.lt_or_gt_of_ne hne with q|q
 · exact hp k i hk hi q
 · rw [IV]
   exact hp i k hi hk q
end Go.Proofs.YtpfemjlhklnfoaaGreatDoor
