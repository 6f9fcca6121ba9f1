/- Wc3, Wc4, Gs0, Gs1, Gs2, Gs3: their declarations that are needed, laid in one text, remarks and blanks left out. -/
import Derived.Test.YtpfemjlhklnfoaaGreatDoorMh16
namespace Go.Proofs.YtpfemjlhklnfoaaGreatDoor
open Go.RowKit Go.Maps Go.WideMaps
set_option maxRecDepth 100000
def pF (L R:List CV):Prop:=(L.map CV.pg).Perm (R.map CV.pg)
theorem uP {s:ByteArray} {a b c:Int} {x:CV}:eC s a b c x=true↔x.pg.nm=s∧x.pg.a=a∧x.pg.b=b∧x.pg.c=c:=by
 unfold eC;rw [decide_eq_true_eq]
theorem CG {R:List CV} (hP:R.Pairwise fun x y=>eC x.pg.nm x.pg.a x.pg.b x.pg.c y=false) {x:CV} (hx:x ∈ R):bJ R x.pg.nm x.pg.a x.pg.b x.pg.c=some x:=by
 unfold bJ;cases hf:R.find? (eC x.pg.nm x.pg.a x.pg.b x.pg.c) with
 |none=>exact absurd (decide_eq_true ⟨rfl,rfl,rfl,rfl⟩) (List.find?_eq_none.1 hf x hx)
 |some y=>
  have hy:=List.mem_of_find?_eq_some hf;have hk:eC x.pg.nm x.pg.a x.pg.b x.pg.c y=true:=List.find?_some hf
  by_cases e:y=x
  · rw [e]
  · obtain ⟨i,hi,rfl⟩:=List.getElem_of_mem hx
    obtain ⟨j,hj,rfl⟩:=List.getElem_of_mem hy;rw [List.pairwise_iff_getElem] at hP
    rcases Nat.lt_trichotomy i j with h|h|h
    · rw [hP i j hi hj h] at hk;cases hk
    · subst h;exact absurd rfl e
    · have h2:=zI.1 (hP j i hj hi h)
      rw [h2] at hk;cases hk
theorem KF {x y:CV} (h:eC x.pg.nm x.pg.a x.pg.b x.pg.c y=true):gT y=gT x:=by
 obtain ⟨h1,h2,h3,h4⟩:=uP.1 h;unfold gT;rw [h1,h2,h3,h4]
theorem nZ {L:List CV} (h:L.Pairwise fun x y=>gT x≠gT y):L.Pairwise fun x y=>eC x.pg.nm x.pg.a x.pg.b x.pg.c y=false:=h.imp fun {_ _} q=>Bool.eq_false_iff.2 fun e=>q (KF e).symm
theorem uQ {L R:List CV} (hR:R.Pairwise fun x y=>eC x.pg.nm x.pg.a x.pg.b x.pg.c y=false) (h:pF L R) {s:ByteArray} {a b c:Int} {x:CV} (hx:bJ L s a b c=some x):∃ y,bJ R s a b c=some y∧y.pg=x.pg:=by
 have hm:=List.mem_of_find?_eq_some hx;obtain ⟨h1,h2,h3,h4⟩:=uP.1 (List.find?_some hx);obtain ⟨y,hy,e⟩:=List.mem_map.1 (h.mem_iff.1 (List.mem_map.2 ⟨x,hm,rfl⟩));refine ⟨y,?_,e⟩;have q:=CG hR hy;rw [e,h1,h2,h3,h4] at q;exact q
theorem uR {L R:List CV} (hL:L.Pairwise fun x y=>eC x.pg.nm x.pg.a x.pg.b x.pg.c y=false) (hR:R.Pairwise fun x y=>eC x.pg.nm x.pg.a x.pg.b x.pg.c y=false) (h:pF L R) (s:ByteArray) (a b c:Int):(bJ L s a b c).map CV.pg=(bJ R s a b c).map CV.pg:=by
 cases hx:bJ L s a b c with
 |some x=>
  obtain ⟨y,hy,e⟩:=uQ hR h hx;rw [hy];show some x.pg=some y.pg;rw [e]
 |none=>
  cases hy:bJ R s a b c with
  |none=>rfl
  |some y=>
   obtain ⟨x,hx',_⟩:=uQ hL h.symm hy;rw [hx] at hx';cases hx'
theorem zM {L R:List CV} (hf:∀ s a b c,(bJ L s a b c).map CV.pg=(bJ R s a b c).map CV.pg) (h:pF L R) (P:Pg):cD L P=cD R P:=by
 have e:=hf P.nm P.a P.b P.c
 have hl:L.length=R.length:=by
  have:=h.length_eq
  rw [List.length_map,List.length_map] at this;exact this
 have hs:(bJ L P.nm P.a P.b P.c).isSome=(bJ R P.nm P.a P.b P.c).isSome:=by
  have:=congrArg Option.isSome e
  rw [Option.isSome_map,Option.isSome_map] at this;exact this
 unfold cD;rw [hs,hl]
def PutL (L L':List CV) (P:Pg):Prop:=(cD L P≠0∧L'=L)∨(cD L P=0∧∃ u1 u2 u3,L'.Perm (⟨P,u1,u2,u3⟩::L))
theorem PutL.two {L L' R R':List CV} {P:Pg} (hf:∀ s a b c,(bJ L s a b c).map CV.pg=(bJ R s a b c).map CV.pg) (h:pF L R) (h1:PutL L L' P) (h2:PutL R R' P):pF L' R':=by
 have e:=zM hf h P
 rcases h1 with ⟨a1,rfl⟩|⟨a1,u1,u2,u3,p1⟩
 · rcases h2 with ⟨_,rfl⟩|⟨b1,_⟩
   · exact h
   · exact absurd (e.trans b1) a1
 · rcases h2 with ⟨b1,_⟩|⟨_,v1,v2,v3,p2⟩
   · exact absurd (e.symm.trans a1) b1
   · exact (p1.map CV.pg).trans ((h.cons P).trans (p2.map CV.pg).symm)
theorem CH {w:World} {B C M:Nat} {L:List CV} (h:CatAt w B C M L) (hB:B≤w.heap.size) (hl:L.length≤128) {P:Pg} {v1 v2 v3:Value} (hp:PgAt w P v1 v2 v3) (he:Env w) (hf:FL w):
 Calls Tryz.prog 12 #[.pointer (some ⟨C,0,none⟩),.agg #[.string P.nm,.int .i64 P.a,.int .i64 P.b,.int .i64 P.c,v1,v2,v3]] w fun e w'=>∃ L',e= .returned (.int .i64 (cD L P))∧(CatAt w' B C M L'∧L'.length≤128)∧PutL L L' P∧w.grownBy w' (some M):=by
 cases hw:aI P
 · have hr:cD L P=24:=by unfold cD;rw [hw,if_neg (by decide)]
   refine (MQ h hp he hf hw).mono ?_;rintro e w' ⟨rfl,hb⟩;exact ⟨L,by rw [hr],⟨h.below hb,hl⟩,Or.inl ⟨by rw [hr];decide,rfl⟩,dV hb⟩
 · cases hx:bJ L P.nm P.a P.b P.c with
   |some x=>
    have hr:cD L P=11:=by unfold cD;rw [hw,hx];rfl
    refine (BM h hp he hf (gU hw) hw hx).mono ?_;rintro e w' ⟨rfl,hb⟩;exact ⟨L,by rw [hr],⟨h.below hb,hl⟩,Or.inl ⟨by rw [hr];decide,rfl⟩,dV hb⟩
   |none=>
    by_cases hn:L.length<128
    · have hr:cD L P=0:=by unfold cD;rw [hw,hx,if_pos rfl,if_neg (by simp),if_pos hn]
      refine (MR h hp he hf hB (gU hw) hw hx hn).mono ?_;rintro e w' ⟨rfl,u1,u2,u3,L',hp',hc,hg⟩;refine ⟨L',by rw [hr],⟨hc,?_⟩,Or.inr ⟨hr,u1,u2,u3,hp'⟩,hg⟩;rw [hp'.length_eq,List.length_cons];omega
    · have hr:cD L P=26:=by unfold cD;rw [hw,hx,if_pos rfl,if_neg (by simp),if_neg hn]
      refine (EY h hp he hf (gU hw) hw hx (by omega)).mono ?_;rintro e w' ⟨rfl,hb⟩;exact ⟨L,by rw [hr],⟨h.below hb,hl⟩,Or.inl ⟨by rw [hr];decide,rfl⟩,dV hb⟩
theorem xG {w0 w:World} {E:Nat} {R:List CV} (h:RcAt w0 w E R) (hb0:Below w0.heap.size w0 w) {P:Pg} {v1 v2 v3:Value} (hp:PgAt w0 P v1 v2 v3) (hok:lH P):
 Calls Tryz.prog 13 #[.pointer (some ⟨E,0,none⟩),.agg #[.string P.nm,.int .i64 P.a,.int .i64 P.b,.int .i64 P.c,v1,v2,v3]] w fun e w'=>∃ R',e= .returned (.int .i64 (cD R P))∧RcAt w0 w' E R'∧PutL R R' P∧w.grownBy w' (some E):=by
 cases hw:aI P
 · have hr:cD R P=24:=by unfold cD;rw [hw,if_neg (by decide)]
   refine (KD h hb0 hp hok hw).mono ?_;rintro e w' ⟨rfl,hb⟩;exact ⟨R,by rw [hr],h.below hb,Or.inl ⟨by rw [hr];decide,rfl⟩,dV hb⟩
 · cases hx:bJ R P.nm P.a P.b P.c with
   |some x=>
    have hr:cD R P=11:=by unfold cD;rw [hw,hx];rfl
    refine (xF h hb0 hp hok hw hx).mono ?_;rintro e w' ⟨rfl,hb⟩;exact ⟨R,by rw [hr],h.below hb,Or.inl ⟨by rw [hr];decide,rfl⟩,dV hb⟩
   |none=>
    by_cases hn:R.length<128
    · have hr:cD R P=0:=by unfold cD;rw [hw,hx,if_pos rfl,if_neg (by simp),if_pos hn]
      refine (KE h hb0 hp hok hw hx hn).mono ?_;rintro e w' ⟨rfl,hc,hg⟩;exact ⟨_,by rw [hr],hc,Or.inr ⟨hr,v1,v2,v3,iG _ _⟩,hg⟩
    · have hr:cD R P=26:=by unfold cD;rw [hw,hx,if_pos rfl,if_neg (by simp),if_neg hn]
      refine (CF h hb0 hp hok hw hx (by omega)).mono ?_;rintro e w' ⟨rfl,hb⟩;exact ⟨R,by rw [hr],h.below hb,Or.inl ⟨by rw [hr];decide,rfl⟩,dV hb⟩
def MZ (w w':World) (C E M:Nat) (L R:List CV):Prop:=(CatAt w' w.heap.size C M L∧L.length≤128)∧RcAt w w' E R∧pF L R∧Below w.heap.size w w'
end Go.Proofs.YtpfemjlhklnfoaaGreatDoor
namespace Go.Proofs.YtpfemjlhklnfoaaGreatDoor
open Go.RowKit
set_option maxRecDepth 100000
def BxEg (w:World) (N:Nat) (p:Eg):Prop:=(w.cell? ⟨N,0,none⟩=some (.string p.lb)∧w.cell? ⟨N,1,none⟩=some (.int .i64 p.to))∧N<w.heap.size
theorem FP (N:Nat) (p:Eg):KeepP fun w1=>BxEg w1 N p:=fun w w' h hb=>by
 obtain ⟨⟨h0,h1⟩,hg⟩:=h;have q:∀ i,w'.cell? ⟨N,i,none⟩=w.cell? ⟨N,i,none⟩:=fun i=>hb.cell (p:=⟨N,i,none⟩) hg
 exact ⟨⟨by rw [q];exact h0,by rw [q];exact h1⟩,Nat.lt_of_lt_of_le hg hb.size⟩
theorem BxEg.new {w:World} {N:Nat} (hN:w.heap.size=N) (p:Eg):BxEg (w.alloc (.cells #[.string p.lb,.int .i64 p.to] 77)) N p:=by
 subst hN;refine ⟨⟨?_,?_⟩,?_⟩<;>simp
def BxNd (w:World) (N:Nat) (n:Nd) (vc ve:Value):Prop:=(w.cell? ⟨N,0,none⟩=some (.string n.nm)∧w.cell? ⟨N,1,none⟩=some (.int .i64 n.a)∧w.cell? ⟨N,2,none⟩=some (.int .i64 n.b)∧w.cell? ⟨N,3,none⟩=some (.int .i64 n.c)∧w.cell? ⟨N,4,none⟩=some vc∧w.cell? ⟨N,5,none⟩=some ve)∧N<w.heap.size
theorem aZ (N:Nat) (n:Nd) (vc ve:Value):KeepP fun w1=>BxNd w1 N n vc ve:=fun w w' h hb=>by
 obtain ⟨⟨h0,h1,h2,h3,h4,h5⟩,hg⟩:=h;have q:∀ i,w'.cell? ⟨N,i,none⟩=w.cell? ⟨N,i,none⟩:=fun i=>hb.cell (p:=⟨N,i,none⟩) hg
 exact ⟨⟨by rw [q];exact h0,by rw [q];exact h1,by rw [q];exact h2,by rw [q];exact h3,by rw [q];exact h4,by rw [q];exact h5⟩,Nat.lt_of_lt_of_le hg hb.size⟩
theorem BxNd.new {w:World} {N:Nat} (hN:w.heap.size=N) (n:Nd) (vc ve:Value):BxNd (w.alloc (.cells #[.string n.nm,.int .i64 n.a,.int .i64 n.b,.int .i64 n.c,vc,ve] 67)) N n vc ve:=by
 subst hN;refine ⟨⟨?_,?_,?_,?_,?_,?_⟩,?_⟩<;>simp
def BxG (w:World) (N:Nat) (v:Value):Prop:=w.cell? ⟨N,0,none⟩=some v∧N<w.heap.size
theorem bY (N:Nat) (v:Value):KeepP fun w1=>BxG w1 N v:=fun _ _ h hb=>⟨(hb.cell (p:=⟨N,0,none⟩) h.2).trans h.1,Nat.lt_of_lt_of_le h.2 hb.size⟩
theorem BxG.new {w:World} {N:Nat} (hN:w.heap.size=N) (v:Value):BxG (w.alloc (.cells #[v] 55)) N v:=by
 subst hN;exact ⟨by simp,by simp⟩
def xH (p q:Eg):Bool:=decide (p.lb.toList=q.lb.toList)&&decide (p.to=q.to)
theorem uS {p q:Eg}:xH p q=true↔p=q:=by
 obtain ⟨s,a⟩:=p;obtain ⟨s',a'⟩:=q;unfold xH;simp only [Bool.and_eq_true,decide_eq_true_eq,Eg.mk.injEq];exact ⟨fun ⟨h1,h2⟩=>⟨Sc.bO h1,h2⟩,fun ⟨h1,h2⟩=>⟨by rw [h1],h2⟩⟩
theorem KG (op:BinOp) (x y:Operand) (xs ys:Array Value) (w:World):(eqGuard op 77 x y (.agg xs) (.agg ys)).run Tryz.prog w= .ok () w:=run_eqGuard_agg w op 77 x y xs ys (by kernel_rfl)
theorem OB (p q:Eg) (w:World):(binOp .neq 77 (.agg #[.string p.lb,.int .i64 p.to]) (.agg #[.string q.lb,.int .i64 q.to])).run Tryz.prog w= .ok (.bool (!(xH p q))) w:=by
 obtain ⟨s,a⟩:=p;obtain ⟨s',a'⟩:=q;have u3:=Tryz.underlying3;have a3:=Tryz.isAgg3;have z3:=Tryz.sizeOf3;have u9:=Tryz.underlying9;have a9:=Tryz.isAgg9;have z9:=Tryz.sizeOf9;rw [run_neq_struct,show (10000:Nat)=9999+1 from rfl,run_equalIn_agg w 9999 77 _ _ (by kernel_rfl) (by kernel_rfl)];simp only [Program.fieldsOf,Tryz.underlying77];unfold xH
 simp only
 by_cases hs:s.toList=s'.toList
 · obtain rfl:=Sc.bO hs
   by_cases ha:a=a'
   · subst ha
     go_simp
   · simp only [ha,decide_false,Bool.and_false]
     go_simp
 · simp only [hs,decide_false,Bool.false_and]
   go_simp
theorem mK (g o:Nat) (p:Pn):KeepP fun W=>PnIn W g o p:=fun _ _ h hb=>h.below hb
theorem zN (g o:Nat) (p:Eg):KeepP fun W=>EgIn W g o p:=fun _ _ h hb=>h.below hb
set_option maxHeartbeats 1600000 in
theorem CI (A B:List Pn) (hAB:A.length=B.length) (hsz:A.length≤9223372036854775807) (ga oa ca gb ob cb:Nat) (w:World) (hla:∀ i (h:i<A.length),PnIn w ga (oa+i*4) A[i]) (hlb:∀ i (h:i<B.length),PnIn w gb (ob+i*4) B[i]):
 Calls Tryz.prog 124 #[.slice (some ⟨ga,oa,none⟩) A.length ca,.slice (some ⟨gb,ob,none⟩) B.length cb] w fun e w'=>e= .returned (.bool (eqB A B))∧Below w.heap.size w w':=by
 have HL:Hid (∀ w1,Below w.heap.size w w1→∀ i (h:i<A.length) (h2:i<B.length),PnIn w1 ga (oa+i*4) A[i]∧PnIn w1 gb (ob+i*4) B[i]):=fun w1 hb i hi hi2=>⟨(hla i hi).below hb,(hlb i hi2).below hb⟩
 have HAB:=aA hAB;clear hla hlb;rw [←hAB];clear hAB
 go_enter Tryz.func124,Tryz.ntmps124
 go_wp2_with fail
 go_loopw [13] (fun i wr=>∃ k:Nat,k≤A.length∧i= .int .i64 k∧Below w.heap.size w wr∧∀ j (h:j<k) (h1:j<A.length) (h2:j<B.length),A[j]=B[j]) (fun i _=>A.length - (intOf i).toNat)
 case atStart=>exact ⟨0,Nat.zero_le _,rfl,Below.refl _ _,fun j h=>by omega⟩
 case round=>
  obtain ⟨k,hk,rfl,hb,hall⟩:=hrel;have HALL:=aA hall;have HB:=aA hb;clear hall
  by_cases hlt:k<A.length
  · have hltB:k<B.length:=HAB.out ▸ hlt
    have HO:Hid (Below w.heap.size w wr∧PnIn wr ga (oa+k*4) A[k]∧PnIn wr gb (ob+k*4) B[k]):=⟨hb,HL.out wr hb k hlt hltB⟩;have HK:Hid (KeepP fun w1=>Below w.heap.size w w1∧PnIn w1 ga (oa+k*4) A[k]∧PnIn w1 gb (ob+k*4) B[k]):=(aG w).and ((mK _ _ _).and (mK _ _ _));have HNE:Hid (dB A[k] B[k]=false→eqB A B=false):=fun h=>gO fun e=>by subst e;rw [(fW).2 rfl] at h;cases h
    have HST:Hid (dB A[k] B[k]=true→∀ j (h:j<k+1) (h1:j<A.length) (h2:j<B.length),A[j]=B[j]):=fun h j hj h1 h2=>by
     rcases Nat.lt_or_ge j k with hjk|hjk
     · exact HALL.out j hjk h1 h2
     · obtain rfl:j=k:=by omega
       exact fW.1 h
    have he:=NY A[k] B[k];generalize A[k]=s at*;generalize B[k]=t at*;have hgd:=sA;cases hq:dB s t
    · have HR:=aA (HNE.out hq)
      rw [hq] at he;clear hb HNE HST HALL
      go_wp2_with fail
      refine bA HK (by kernel_rfl) (by kernel_rfl) (by first|exact HO.out|exact HK.out.drew HO.out) ?_;intro C HIN HOUT;clear HO
      repeat
       (with_reducible refine wpQuiet_step (fun K hK=> ?_)
        go_simp
        first
         |(refine hK _ ?_;clear hK K)
         |(apply Exists.intro;refine ⟨fun w1 hC=> ?_,hK _ ?_⟩;(focus ((first|(exact rfl)|(obtain ⟨hb1,⟨⟨p0,p1,p2,p3⟩,p6⟩,⟨⟨q0,q1,q2,q3⟩,q6⟩⟩:=HOUT.out w1 hC;clear hC;go_simp;first|done|exact rfl));done));clear hK K))
      refine wpQuiet_nil ?_;intro wn hC;have HO:=aA (HOUT.out _ hC);clear hC HIN HOUT C;obtain ⟨hb1,⟨⟨p0,p1,p2,p3⟩,p6⟩,⟨⟨q0,q1,q2,q3⟩,q6⟩⟩:=HO.out
      go_wp2
      go_ret;exact ⟨aC HR.out.symm,HO.out.1⟩
    · have HR:=aA (HST.out hq)
      rw [hq] at he;clear hb HNE HST HALL
      go_wp2_with fail
      refine bA HK (by kernel_rfl) (by kernel_rfl) (by first|exact HO.out|exact HK.out.drew HO.out) ?_;intro C HIN HOUT;clear HO
      repeat
       (with_reducible refine wpQuiet_step (fun K hK=> ?_)
        go_simp
        first
         |(refine hK _ ?_;clear hK K)
         |(apply Exists.intro;refine ⟨fun w1 hC=> ?_,hK _ ?_⟩;(focus ((first|(exact rfl)|(obtain ⟨hb1,⟨⟨p0,p1,p2,p3⟩,p6⟩,⟨⟨q0,q1,q2,q3⟩,q6⟩⟩:=HOUT.out w1 hC;clear hC;go_simp;first|done|exact rfl));done));clear hK K))
      refine wpQuiet_nil ?_;intro wn hC;have HO:=aA (HOUT.out _ hC);clear hC HIN HOUT C;obtain ⟨hb1,⟨⟨p0,p1,p2,p3⟩,p6⟩,⟨⟨q0,q1,q2,q3⟩,q6⟩⟩:=HO.out
      go_wp2
      exact ⟨⟨k+1,by omega,by go_num,HO.out.1,HR.out⟩,by simp [intOf];omega⟩
  · have hke:k=A.length:=by omega
    subst hke;have HR:Hid (eqB A B=true):=cT (List.ext_getElem HAB.out fun j h1 h2=>HALL.out j h1 h1 h2);clear hb
    go_wp2
    go_ret;exact ⟨aC HR.out.symm,HB.out⟩
theorem uT (ad bd:Option Addr) (ca cb:Nat) (w:World):
 Calls Tryz.prog 124 #[.slice ad 0 ca,.slice bd 0 cb] w fun e w'=>e= .returned (.bool true)∧Below w.heap.size w w':=by
 go_enter Tryz.func124,Tryz.ntmps124
 go_wp2_with fail
 go_loop [13] (fun i=>i= .int .i64 0) (fun _=>0)
 case atStart=>rfl
 case round=>
  subst hrel
  go_wp2
  go_ret;exact ⟨rfl,Below.refl _ _⟩
theorem FQ (ad bd:Option Addr) (n m ca cb:Nat) (h:n≠m) (w:World):
 Calls Tryz.prog 124 #[.slice ad n ca,.slice bd m cb] w fun e w'=>e= .returned (.bool false)∧Below w.heap.size w w':=by
 have hn:((n:Int)=(m:Int))=False:=by simp;omega
 go_enter Tryz.func124,Tryz.ntmps124
 go_wp2
 go_ret;exact ⟨rfl,Below.refl _ _⟩
theorem uU {A B:List Pn} {va vb:Value} {w:World} (ha:PinsAt w va A) (hb:PinsAt w vb B) (hsz:A.length≤9223372036854775807):
 Calls Tryz.prog 124 #[va,vb] w fun e w'=>e= .returned (.bool (eqB A B))∧Below w.heap.size w w':=by
 obtain ⟨ad,ca,rfl,_,hl⟩:=ha;obtain ⟨bd,cb,rfl,_,hm⟩:=hb
 by_cases hn:A.length=B.length
 · rcases hl with rfl|⟨ga,oa,rfl,hga,hla⟩
   · obtain rfl:B=[]:=List.eq_nil_of_length_eq_zero (by simpa using hn.symm)
     rw [cT rfl];exact uT _ _ _ _ w
   · rcases hm with rfl|⟨gb,ob,rfl,hgb,hlb⟩
     · obtain rfl:A=[]:=List.eq_nil_of_length_eq_zero (by simpa using hn)
       rw [cT rfl];exact uT _ _ _ _ w
     · exact CI A B hn hsz ga oa ca gb ob cb w hla hlb
 · rw [gO fun e=>hn (by rw [e])]
   exact FQ _ _ _ _ _ _ hn w
set_option maxHeartbeats 1600000 in
theorem CJ (A B:List Eg) (hAB:A.length=B.length) (hsz:A.length≤9223372036854775807) (ga oa ca gb ob cb:Nat) (w:World) (hla:∀ i (h:i<A.length),EgIn w ga (oa+i*2) A[i]) (hlb:∀ i (h:i<B.length),EgIn w gb (ob+i*2) B[i]):
 Calls Tryz.prog 128 #[.slice (some ⟨ga,oa,none⟩) A.length ca,.slice (some ⟨gb,ob,none⟩) B.length cb] w fun e w'=>e= .returned (.bool (eqB A B))∧Below w.heap.size w w':=by
 have HL:Hid (∀ w1,Below w.heap.size w w1→∀ i (h:i<A.length) (h2:i<B.length),EgIn w1 ga (oa+i*2) A[i]∧EgIn w1 gb (ob+i*2) B[i]):=fun w1 hb i hi hi2=>⟨(hla i hi).below hb,(hlb i hi2).below hb⟩
 have HAB:=aA hAB;clear hla hlb;rw [←hAB];clear hAB
 go_enter Tryz.func128,Tryz.ntmps128
 go_wp2_with fail
 go_loopw [13] (fun i wr=>∃ k:Nat,k≤A.length∧i= .int .i64 k∧Below w.heap.size w wr∧∀ j (h:j<k) (h1:j<A.length) (h2:j<B.length),A[j]=B[j]) (fun i _=>A.length - (intOf i).toNat)
 case atStart=>exact ⟨0,Nat.zero_le _,rfl,Below.refl _ _,fun j h=>by omega⟩
 case round=>
  obtain ⟨k,hk,rfl,hb,hall⟩:=hrel;have HALL:=aA hall;have HB:=aA hb;clear hall
  by_cases hlt:k<A.length
  · have hltB:k<B.length:=HAB.out ▸ hlt
    have HO:Hid (Below w.heap.size w wr∧EgIn wr ga (oa+k*2) A[k]∧EgIn wr gb (ob+k*2) B[k]):=⟨hb,HL.out wr hb k hlt hltB⟩;have HK:Hid (KeepP fun w1=>Below w.heap.size w w1∧EgIn w1 ga (oa+k*2) A[k]∧EgIn w1 gb (ob+k*2) B[k]):=(aG w).and ((zN _ _ _).and (zN _ _ _));have HNE:Hid (xH A[k] B[k]=false→eqB A B=false):=fun h=>gO fun e=>by subst e;rw [(uS).2 rfl] at h;cases h
    have HST:Hid (xH A[k] B[k]=true→∀ j (h:j<k+1) (h1:j<A.length) (h2:j<B.length),A[j]=B[j]):=fun h j hj h1 h2=>by
     rcases Nat.lt_or_ge j k with hjk|hjk
     · exact HALL.out j hjk h1 h2
     · obtain rfl:j=k:=by omega
       exact uS.1 h
    have he:=OB A[k] B[k];generalize A[k]=s at*;generalize B[k]=t at*;have hgd:=KG;cases hq:xH s t
    · have HR:=aA (HNE.out hq)
      rw [hq] at he;clear hb HNE HST HALL
      go_wp2_with fail
      refine bA HK (by kernel_rfl) (by kernel_rfl) (by first|exact HO.out|exact HK.out.drew HO.out) ?_;intro C HIN HOUT;clear HO
      repeat
       (with_reducible refine wpQuiet_step (fun K hK=> ?_)
        go_simp
        first
         |(refine hK _ ?_;clear hK K)
         |(apply Exists.intro;refine ⟨fun w1 hC=> ?_,hK _ ?_⟩;(focus ((first|(exact rfl)|(obtain ⟨hb1,⟨⟨p0,p1⟩,p6⟩,⟨⟨q0,q1⟩,q6⟩⟩:=HOUT.out w1 hC;clear hC;go_simp;first|done|exact rfl));done));clear hK K))
      refine wpQuiet_nil ?_;intro wn hC;have HO:=aA (HOUT.out _ hC);clear hC HIN HOUT C;obtain ⟨hb1,⟨⟨p0,p1⟩,p6⟩,⟨⟨q0,q1⟩,q6⟩⟩:=HO.out
      go_wp2
      go_ret;exact ⟨aC HR.out.symm,HO.out.1⟩
    · have HR:=aA (HST.out hq)
      rw [hq] at he;clear hb HNE HST HALL
      go_wp2_with fail
      refine bA HK (by kernel_rfl) (by kernel_rfl) (by first|exact HO.out|exact HK.out.drew HO.out) ?_;intro C HIN HOUT;clear HO
      repeat
       (with_reducible refine wpQuiet_step (fun K hK=> ?_)
        go_simp
        first
         |(refine hK _ ?_;clear hK K)
         |(apply Exists.intro;refine ⟨fun w1 hC=> ?_,hK _ ?_⟩;(focus ((first|(exact rfl)|(obtain ⟨hb1,⟨⟨p0,p1⟩,p6⟩,⟨⟨q0,q1⟩,q6⟩⟩:=HOUT.out w1 hC;clear hC;go_simp;first|done|exact rfl));done));clear hK K))
      refine wpQuiet_nil ?_;intro wn hC;have HO:=aA (HOUT.out _ hC);clear hC HIN HOUT C;obtain ⟨hb1,⟨⟨p0,p1⟩,p6⟩,⟨⟨q0,q1⟩,q6⟩⟩:=HO.out
      go_wp2
      exact ⟨⟨k+1,by omega,by go_num,HO.out.1,HR.out⟩,by simp [intOf];omega⟩
  · have hke:k=A.length:=by omega
    subst hke;have HR:Hid (eqB A B=true):=cT (List.ext_getElem HAB.out fun j h1 h2=>HALL.out j h1 h1 h2);clear hb
    go_wp2
    go_ret;exact ⟨aC HR.out.symm,HB.out⟩
theorem uV (ad bd:Option Addr) (ca cb:Nat) (w:World):
 Calls Tryz.prog 128 #[.slice ad 0 ca,.slice bd 0 cb] w fun e w'=>e= .returned (.bool true)∧Below w.heap.size w w':=by
 go_enter Tryz.func128,Tryz.ntmps128
 go_wp2_with fail
 go_loop [13] (fun i=>i= .int .i64 0) (fun _=>0)
 case atStart=>rfl
 case round=>
  subst hrel
  go_wp2
  go_ret;exact ⟨rfl,Below.refl _ _⟩
theorem FR (ad bd:Option Addr) (n m ca cb:Nat) (h:n≠m) (w:World):
 Calls Tryz.prog 128 #[.slice ad n ca,.slice bd m cb] w fun e w'=>e= .returned (.bool false)∧Below w.heap.size w w':=by
 have hn:((n:Int)=(m:Int))=False:=by simp;omega
 go_enter Tryz.func128,Tryz.ntmps128
 go_wp2
 go_ret;exact ⟨rfl,Below.refl _ _⟩
theorem FS {A B:List Eg} {va vb:Value} {w:World} (ha:EdgesAt w va A) (hb:EdgesAt w vb B) (hsz:A.length≤9223372036854775807):
 Calls Tryz.prog 128 #[va,vb] w fun e w'=>e= .returned (.bool (eqB A B))∧Below w.heap.size w w':=by
 obtain ⟨ad,ca,rfl,_,hl⟩:=ha;obtain ⟨bd,cb,rfl,_,hm⟩:=hb
 by_cases hn:A.length=B.length
 · rcases hl with rfl|⟨ga,oa,rfl,hga,hla⟩
   · obtain rfl:B=[]:=List.eq_nil_of_length_eq_zero (by simpa using hn.symm)
     rw [cT rfl];exact uV _ _ _ _ w
   · rcases hm with rfl|⟨gb,ob,rfl,hgb,hlb⟩
     · obtain rfl:A=[]:=List.eq_nil_of_length_eq_zero (by simpa using hn)
       rw [cT rfl];exact uV _ _ _ _ w
     · exact CJ A B hn hsz ga oa ca gb ob cb w hla hlb
 · rw [gO fun e=>hn (by rw [e])]
   exact FR _ _ _ _ _ _ hn w
theorem NA {α:Type} {x y:α} {b:Bool} (h:x=y↔b=true):eqB x y=b:=by
 cases b
 · exact gO fun e=>by cases h.1 e
 · exact cT (h.2 rfl)
def fD (n:Nd):Pn:=⟨n.nm,n.a,n.b,n.c⟩
noncomputable def fE (n m:Nd):Bool:=dB (fD n) (fD m)&&eqB n.cx m.cx
theorem kI {n m:Nd}:fE n m=true↔fD n=fD m∧n.cx=m.cx:=by
 unfold fE;rw [Bool.and_eq_true,fW,rK]
theorem KH {n m:Nd}:(fE n m&&eqB n.ed m.ed)=eqB n m:=by
 obtain ⟨s,a,b,c,cx,ed⟩:=n;obtain ⟨s',a',b',c',cx',ed'⟩:=m;refine (NA ?_).symm;rw [Bool.and_eq_true,kI,rK];unfold fD;simp only [Nd.mk.injEq,Pn.mk.injEq];exact ⟨fun ⟨h1,h2,h3,h4,h5,h6⟩=>⟨⟨⟨h1,h2,h3,h4⟩,h5⟩,h6⟩,fun ⟨⟨⟨h1,h2,h3,h4⟩,h5⟩,h6⟩=>⟨h1,h2,h3,h4,h5,h6⟩⟩
theorem lK {s:ByteArray} {a b c:Int} {vc ve:Value} {w:World} (hc:∃ ad n cap,vc= .slice ad n cap) (he:∃ ad n cap,ve= .slice ad n cap):Calls Tryz.prog 74 #[.agg #[.string s,.int .i64 a,.int .i64 b,.int .i64 c,vc,ve]] w fun e w'=>e= .returned (.agg #[.string s,.int .i64 a,.int .i64 b,.int .i64 c])∧Below w.heap.size w w':=by
 obtain ⟨a1,n1,c1,rfl⟩:=hc;obtain ⟨a2,n2,c2,rfl⟩:=he;have HB:Hid (Below w.heap.size w ((w.alloc (.cells #[.string s,.int .i64 a,.int .i64 b,.int .i64 c,.slice a1 n1 c1,.slice a2 n2 c2] 67)).alloc (.cells #[.string s,.int .i64 a,.int .i64 b,.int .i64 c] 80))):=aR _ _ _
 go_enter Tryz.func74,Tryz.ntmps74
 go_wp2
 try simp only [Exit.inBlock,Exit.then]
 refine bodyPost_ret (by simp [results,Tryz.results74,go_sem];try rfl) rfl ?_;exact ⟨rfl,HB.out⟩
set_option maxHeartbeats 1600000 in
theorem qK {n m:Nd} {vc ve uc ue:Value} {w:World} (hc:PinsAt w vc n.cx) (he:∃ ad k cap,ve= .slice ad k cap) (hd:PinsAt w uc m.cx) (hf:∃ ad k cap,ue= .slice ad k cap) (hz:n.cx.length≤9223372036854775807):
 Calls Tryz.prog 70 #[.agg #[.string n.nm,.int .i64 n.a,.int .i64 n.b,.int .i64 n.c,vc,ve],.agg #[.string m.nm,.int .i64 m.a,.int .i64 m.b,.int .i64 m.c,uc,ue]] w fun e w'=>e= .returned (.bool (fE n m))∧Below w.heap.size w w':=by
 have HE:Hid (∀ w1,Below w.heap.size w w1→Calls Tryz.prog 124 #[vc,uc] w1 fun x w'=>x= .returned (.bool (eqB n.cx m.cx))∧Below w1.heap.size w1 w'):=fun w1 h=>uU (hc.below h) (hd.below h) hz
 have HP1:Hid (∀ w1,Calls Tryz.prog 74 #[.agg #[.string n.nm,.int .i64 n.a,.int .i64 n.b,.int .i64 n.c,vc,ve]] w1 fun x w'=>x= .returned (.agg #[.string n.nm,.int .i64 n.a,.int .i64 n.b,.int .i64 n.c])∧Below w1.heap.size w1 w'):=fun w1=>lK (let ⟨ad,cap,h⟩:=hc.sl;⟨ad,_,cap,h⟩) he
 have HP2:Hid (∀ w1,Calls Tryz.prog 74 #[.agg #[.string m.nm,.int .i64 m.a,.int .i64 m.b,.int .i64 m.c,uc,ue]] w1 fun x w'=>x= .returned (.agg #[.string m.nm,.int .i64 m.a,.int .i64 m.b,.int .i64 m.c])∧Below w1.heap.size w1 w'):=fun w1=>lK (let ⟨ad,cap,h⟩:=hd.sl;⟨ad,_,cap,h⟩) hf
 have hv:=LX (fD n) (fD m);have hgd:=sA;have HA:Hid (fE n m=(dB (fD n) (fD m)&&eqB n.cx m.cx)):=rfl;obtain ⟨ac,cc,rfl⟩:=hc.sl;obtain ⟨uc',cd,rfl⟩:=hd.sl;obtain ⟨ae,ke,ce,rfl⟩:=he;obtain ⟨af,kf,cf,rfl⟩:=hf;clear hc hd hz;generalize fE n m=ab at*;generalize eqB n.cx m.cx=eb at*;generalize dB (fD n) (fD m)=pb at*;unfold fD at hv
 simp only at hv
 have HK:Hid (KeepP fun w1=>Below w.heap.size w w1∧BxNd w1 w.heap.size n (.slice ac n.cx.length cc) (.slice ae ke ce)∧BxNd w1 (w.heap.size+1) m (.slice uc' m.cx.length cd) (.slice af kf cf)):=(aG w).and ((aZ _ _ _ _).and (aZ _ _ _ _))
 have HO:Hid (Below w.heap.size w ((w.alloc (.cells #[.string n.nm,.int .i64 n.a,.int .i64 n.b,.int .i64 n.c,.slice ac n.cx.length cc,.slice ae ke ce] 67)).alloc (.cells #[.string m.nm,.int .i64 m.a,.int .i64 m.b,.int .i64 m.c,.slice uc' m.cx.length cd,.slice af kf cf] 67))∧BxNd ((w.alloc (.cells #[.string n.nm,.int .i64 n.a,.int .i64 n.b,.int .i64 n.c,.slice ac n.cx.length cc,.slice ae ke ce] 67)).alloc (.cells #[.string m.nm,.int .i64 m.a,.int .i64 m.b,.int .i64 m.c,.slice uc' m.cx.length cd,.slice af kf cf] 67)) w.heap.size n (.slice ac n.cx.length cc) (.slice ae ke ce)∧BxNd ((w.alloc (.cells #[.string n.nm,.int .i64 n.a,.int .i64 n.b,.int .i64 n.c,.slice ac n.cx.length cc,.slice ae ke ce] 67)).alloc (.cells #[.string m.nm,.int .i64 m.a,.int .i64 m.b,.int .i64 m.c,.slice uc' m.cx.length cd,.slice af kf cf] 67)) (w.heap.size+1) m (.slice uc' m.cx.length cd) (.slice af kf cf)):=
  ⟨aR _ _ _,aZ _ _ _ _ _ _ (BxNd.new rfl _ _ _) (aD _ _),BxNd.new (by simp) _ _ _⟩
 cases pb
 · go_enter Tryz.func70,Tryz.ntmps70
   go_wp2_with fail
   generalize ((w.alloc (.cells #[.string n.nm,.int .i64 n.a,.int .i64 n.b,.int .i64 n.c,.slice ac n.cx.length cc,.slice ae ke ce] 67)).alloc (.cells #[.string m.nm,.int .i64 m.a,.int .i64 m.b,.int .i64 m.c,.slice uc' m.cx.length cd,.slice af kf cf] 67))=W0 at*;refine bA HK (by kernel_rfl) (by kernel_rfl) (by first|exact HO.out|exact HK.out.drew HO.out) ?_;intro C HIN HOUT;clear HO
   repeat
    (with_reducible refine wpQuiet_step (fun K hK=> ?_)
     go_simp
     first
      |(refine hK _ ?_;clear hK K)
      |(apply Exists.intro;refine ⟨fun w1 hC=> ?_,hK _ ?_⟩;(focus ((first|(go_at_call 74;with_reducible exact aU HIN HOUT HK HP1.out w1 hC)|(go_at_call 74;with_reducible exact aU HIN HOUT HK HP2.out w1 hC)|(exact rfl)|(obtain ⟨hb1,⟨⟨p0,p1,p2,p3,p4,p5⟩,p6⟩,⟨⟨q0,q1,q2,q3,q4,q5⟩,q6⟩⟩:=HOUT.out w1 hC;clear hC;go_simp;first|done|exact rfl));done));clear hK K))
   refine wpQuiet_nil ?_;intro wn hC;have HO:=aA (HOUT.out _ hC);clear hC HIN HOUT C;obtain ⟨hb1,⟨⟨p0,p1,p2,p3,p4,p5⟩,p6⟩,⟨⟨q0,q1,q2,q3,q4,q5⟩,q6⟩⟩:=HO.out
   go_wp2
   go_ret;exact ⟨aC HA.out.symm,hb1⟩
 · go_enter Tryz.func70,Tryz.ntmps70
   go_wp2_with fail
   generalize ((w.alloc (.cells #[.string n.nm,.int .i64 n.a,.int .i64 n.b,.int .i64 n.c,.slice ac n.cx.length cc,.slice ae ke ce] 67)).alloc (.cells #[.string m.nm,.int .i64 m.a,.int .i64 m.b,.int .i64 m.c,.slice uc' m.cx.length cd,.slice af kf cf] 67))=W0 at*;refine bA HK (by kernel_rfl) (by kernel_rfl) (by first|exact HO.out|exact HK.out.drew HO.out) ?_;intro C HIN HOUT;clear HO
   repeat
    (with_reducible refine wpQuiet_step (fun K hK=> ?_)
     go_simp
     first
      |(refine hK _ ?_;clear hK K)
      |(apply Exists.intro;refine ⟨fun w1 hC=> ?_,hK _ ?_⟩;(focus ((first|(go_at_call 74;with_reducible exact aU HIN HOUT HK HP1.out w1 hC)|(go_at_call 74;with_reducible exact aU HIN HOUT HK HP2.out w1 hC)|(go_at_call 124;with_reducible exact cI HIN HOUT HK (fun w1 hk=>HE.out w1 hk.1) w1 hC)|(exact rfl)|(obtain ⟨hb1,⟨⟨p0,p1,p2,p3,p4,p5⟩,p6⟩,⟨⟨q0,q1,q2,q3,q4,q5⟩,q6⟩⟩:=HOUT.out w1 hC;clear hC;go_simp;first|done|exact rfl));done));clear hK K))
   refine wpQuiet_nil ?_;intro wn hC;have HO:=aA (HOUT.out _ hC);clear hC HIN HOUT C;obtain ⟨hb1,⟨⟨p0,p1,p2,p3,p4,p5⟩,p6⟩,⟨⟨q0,q1,q2,q3,q4,q5⟩,q6⟩⟩:=HO.out
   go_wp2
   go_ret;exact ⟨aC HA.out.symm,hb1⟩
set_option maxHeartbeats 1600000 in
theorem sE {n m:Nd} {vc ve uc ue:Value} {w:World} (hc:PinsAt w vc n.cx) (he:EdgesAt w ve n.ed) (hd:PinsAt w uc m.cx) (hf:EdgesAt w ue m.ed) (hz:n.cx.length≤9223372036854775807∧n.ed.length≤9223372036854775807):
 Calls Tryz.prog 81 #[.agg #[.string n.nm,.int .i64 n.a,.int .i64 n.b,.int .i64 n.c,vc,ve],.agg #[.string m.nm,.int .i64 m.a,.int .i64 m.b,.int .i64 m.c,uc,ue]] w fun e w'=>e= .returned (.bool (eqB n m))∧Below w.heap.size w w':=by
 rw [←KH];have HE:Hid (∀ w1,Below w.heap.size w w1→Calls Tryz.prog 128 #[ve,ue] w1 fun x w'=>x= .returned (.bool (eqB n.ed m.ed))∧Below w1.heap.size w1 w'):=fun w1 h=>FS (he.below h) (hf.below h) hz.2
 have HK:Hid (∀ w1,Below w.heap.size w w1→Calls Tryz.prog 70 #[.agg #[.string n.nm,.int .i64 n.a,.int .i64 n.b,.int .i64 n.c,vc,ve],.agg #[.string m.nm,.int .i64 m.a,.int .i64 m.b,.int .i64 m.c,uc,ue]] w1 fun x w'=>x= .returned (.bool (fE n m))∧Below w1.heap.size w1 w'):=fun w1 h=>qK (hc.below h) (let ⟨ad,cap,h⟩:=he.sl;⟨ad,_,cap,h⟩) (hd.below h) (let ⟨ad,cap,h⟩:=hf.sl;⟨ad,_,cap,h⟩) hz.1
 obtain ⟨ac,cc,rfl⟩:=hc.sl;obtain ⟨uc',cd,rfl⟩:=hd.sl;obtain ⟨ae,ce,rfl⟩:=he.sl;obtain ⟨af,cf,rfl⟩:=hf.sl;clear hc hd he hf hz;generalize fE n m=ab at*;generalize eqB n.ed m.ed=eb at*
 have HO:Hid (Below w.heap.size w ((w.alloc (.cells #[.string n.nm,.int .i64 n.a,.int .i64 n.b,.int .i64 n.c,.slice ac n.cx.length cc,.slice ae n.ed.length ce] 67)).alloc (.cells #[.string m.nm,.int .i64 m.a,.int .i64 m.b,.int .i64 m.c,.slice uc' m.cx.length cd,.slice af m.ed.length cf] 67))∧BxNd ((w.alloc (.cells #[.string n.nm,.int .i64 n.a,.int .i64 n.b,.int .i64 n.c,.slice ac n.cx.length cc,.slice ae n.ed.length ce] 67)).alloc (.cells #[.string m.nm,.int .i64 m.a,.int .i64 m.b,.int .i64 m.c,.slice uc' m.cx.length cd,.slice af m.ed.length cf] 67)) w.heap.size n (.slice ac n.cx.length cc) (.slice ae n.ed.length ce)∧BxNd ((w.alloc (.cells #[.string n.nm,.int .i64 n.a,.int .i64 n.b,.int .i64 n.c,.slice ac n.cx.length cc,.slice ae n.ed.length ce] 67)).alloc (.cells #[.string m.nm,.int .i64 m.a,.int .i64 m.b,.int .i64 m.c,.slice uc' m.cx.length cd,.slice af m.ed.length cf] 67)) (w.heap.size+1) m (.slice uc' m.cx.length cd) (.slice af m.ed.length cf)):=
  ⟨aR _ _ _,aZ _ _ _ _ _ _ (BxNd.new rfl _ _ _) (aD _ _),BxNd.new (by simp) _ _ _⟩
 generalize hn1:n.cx.length=l1 at*;generalize hn2:m.cx.length=l2 at*;generalize hn3:n.ed.length=l3 at*;generalize hn4:m.ed.length=l4 at*;clear hn1 hn2 hn3 hn4
 go_enter Tryz.func81,Tryz.ntmps81
 cases ab
 · go_wp2_with (go_at_call 70;refine (HK.out _ HO.out.1).mono ?_;rintro x w1 ⟨rfl,ok⟩;have HO1:=aA (aB HO.out.1 ok);clear ok)
   go_ret;exact ⟨rfl,HO1.out⟩
 · go_wp2_with (first
    |(go_at_call 70;refine (HK.out _ HO.out.1).mono ?_;rintro x w1 ⟨rfl,ok⟩;have HO1:Hid (Below w.heap.size w w1∧BxNd w1 w.heap.size n (.slice ac l1 cc) (.slice ae l3 ce)∧BxNd w1 (w.heap.size+1) m (.slice uc' l2 cd) (.slice af l4 cf)):=⟨aB HO.out.1 ok,aZ _ _ _ _ _ _ HO.out.2.1 ok,aZ _ _ _ _ _ _ HO.out.2.2 ok⟩;obtain ⟨_,⟨⟨p0,p1,p2,p3,p4,p5⟩,p6⟩,⟨⟨q0,q1,q2,q3,q4,q5⟩,q6⟩⟩:=HO1.out;clear ok)
    |(go_at_call 128;refine (HE.out _ HO1.out.1).mono ?_;rintro x w2 ⟨rfl,ok⟩;have HO2:=aA (aB HO1.out.1 ok);clear ok))
   go_ret;exact ⟨rfl,HO2.out⟩
def SzN (n:Nd):Prop:=n.cx.length≤9223372036854775807∧n.ed.length≤9223372036854775807
theorem NodesAt.sl {w:World} {v:Value} {L:List Nd} (h:NodesAt w v L):∃ ad cap,v= .slice ad L.length cap:=by
 obtain ⟨ad,cap,hv,_⟩:=h;exact ⟨ad,cap,hv⟩
set_option maxHeartbeats 3200000 in
theorem CK (A B:List Nd) (hAB:A.length=B.length) (hsz:A.length≤9223372036854775807) (hzn:∀ n ∈ A,SzN n) (ga oa ca gb ob cb:Nat) (w:World) (hla:∀ i (h:i<A.length),∃ vc ve,NdIn w ga (oa+i*6) A[i] vc ve) (hlb:∀ i (h:i<B.length),∃ vc ve,NdIn w gb (ob+i*6) B[i] vc ve):
 Calls Tryz.prog 80 #[.slice (some ⟨ga,oa,none⟩) A.length ca,.slice (some ⟨gb,ob,none⟩) B.length cb,.func (.func 81) #[] #[]] w fun e w'=>e= .returned (.bool (eqB A B))∧Below w.heap.size w w':=by
 have HL:Hid (∀ w1,Below w.heap.size w w1→∀ i (h:i<A.length) (h2:i<B.length),(∃ vc ve,NdIn w1 ga (oa+i*6) A[i] vc ve)∧∃ vc ve,NdIn w1 gb (ob+i*6) B[i] vc ve):=fun w1 hb i hi hi2=>⟨let ⟨x,y,h⟩:=hla i hi;⟨x,y,h.below hb⟩,let ⟨x,y,h⟩:=hlb i hi2;⟨x,y,h.below hb⟩⟩
 have HAB:=aA hAB;have HZN:=aA hzn;clear hla hlb hzn;rw [←hAB];clear hAB
 go_enter Tryz.func80,Tryz.ntmps80
 go_wp2_with fail
 go_loopw [17] (fun i wr=>∃ k:Nat,k≤A.length∧i= .int .i64 k∧Below w.heap.size w wr∧∀ j (h:j<k) (h1:j<A.length) (h2:j<B.length),A[j]=B[j]) (fun i _=>A.length - (intOf i).toNat)
 case atStart=>exact ⟨0,Nat.zero_le _,rfl,Below.refl _ _,fun j h=>by omega⟩
 case round=>
  obtain ⟨k,hk,rfl,hb,hall⟩:=hrel;have HALL:=aA hall;have HB:=aA hb;clear hall
  by_cases hlt:k<A.length
  · have hltB:k<B.length:=HAB.out ▸ hlt
    obtain ⟨⟨vc,ve,hx⟩,uc,ue,hy⟩:=HL.out wr hb k hlt hltB;have hz:=HZN.out _ (List.getElem_mem hlt);have HC:Hid (∀ w1,Below wr.heap.size wr w1→Calls Tryz.prog 81 #[.agg #[.string A[k].nm,.int .i64 A[k].a,.int .i64 A[k].b,.int .i64 A[k].c,vc,ve],.agg #[.string B[k].nm,.int .i64 B[k].a,.int .i64 B[k].b,.int .i64 B[k].c,uc,ue]] w1 fun x w'=>x= .returned (.bool (eqB A[k] B[k]))∧Below w1.heap.size w1 w'):=fun w1 h=>sE (hx.2.1.1.below h) (hx.2.1.2.below h) (hy.2.1.1.below h) (hy.2.1.2.below h) hz
    have HNE:Hid (eqB A[k] B[k]=false→eqB A B=false):=fun h=>gO fun e=>by subst e;rw [cT rfl] at h;cases h
    have HST:Hid (eqB A[k] B[k]=true→∀ j (h:j<k+1) (h1:j<A.length) (h2:j<B.length),A[j]=B[j]):=fun h j hj h1 h2=>by
     rcases Nat.lt_or_ge j k with hjk|hjk
     · exact HALL.out j hjk h1 h2
     · obtain rfl:j=k:=by omega
       exact rK.1 h
    generalize eqB A[k] B[k]=b at*;generalize A[k]=x at*;generalize B[k]=y at*;obtain ⟨av,cv,rfl⟩:=hx.2.1.1.sl;obtain ⟨ae,ce,rfl⟩:=hx.2.1.2.sl;obtain ⟨bv,dv,rfl⟩:=hy.2.1.1.sl;obtain ⟨be,de,rfl⟩:=hy.2.1.2.sl;have HY1:=aA (hy.below (aD wr (.cells #[.string x.nm,.int .i64 x.a,.int .i64 x.b,.int .i64 x.c,.slice av x.cx.length cv,.slice ae x.ed.length ce] 67)));obtain ⟨⟨x0,x1,x2,x3,x4,x5⟩,_,x6⟩:=hx;obtain ⟨⟨f0,f1,f2,f3,f4,f5⟩,_,f6⟩:=HY1.out;clear HY1 hy hz;generalize x.cx.length=l1 at*;generalize x.ed.length=l2 at*;generalize y.cx.length=l3 at*;generalize y.ed.length=l4 at*;cases b
    · have HR:=aA (HNE.out rfl)
      clear hb HNE HST HALL
      go_wp2_with (go_at_call 81;refine (HC.out _ (aR _ _ _)).mono ?_;rintro x w1 ⟨rfl,ok⟩)
      go_ret;exact ⟨aC HR.out.symm,aB HB.out (aB (aR _ _ _) ok)⟩
    · have HR:=aA (HST.out rfl)
      clear hb HNE HST HALL
      go_wp2_with (go_at_call 81;refine (HC.out _ (aR _ _ _)).mono ?_;rintro x w1 ⟨rfl,ok⟩)
      exact ⟨⟨k+1,by omega,by go_num,aB HB.out (aB (aR _ _ _) ok),HR.out⟩,by simp [intOf];omega⟩
  · have hke:k=A.length:=by omega
    subst hke;have HR:Hid (eqB A B=true):=cT (List.ext_getElem HAB.out fun j h1 h2=>HALL.out j h1 h1 h2);clear hb
    go_wp2
    go_ret;exact ⟨aC HR.out.symm,HB.out⟩
theorem uW (ad bd:Option Addr) (ca cb:Nat) (w:World):
 Calls Tryz.prog 80 #[.slice ad 0 ca,.slice bd 0 cb,.func (.func 81) #[] #[]] w fun e w'=>e= .returned (.bool true)∧Below w.heap.size w w':=by
 go_enter Tryz.func80,Tryz.ntmps80
 go_wp2_with fail
 go_loop [17] (fun i=>i= .int .i64 0) (fun _=>0)
 case atStart=>rfl
 case round=>
  subst hrel
  go_wp2
  go_ret;exact ⟨rfl,Below.refl _ _⟩
theorem FT (ad bd:Option Addr) (n m ca cb:Nat) (h:n≠m) (w:World):
 Calls Tryz.prog 80 #[.slice ad n ca,.slice bd m cb,.func (.func 81) #[] #[]] w fun e w'=>e= .returned (.bool false)∧Below w.heap.size w w':=by
 have hn:((n:Int)=(m:Int))=False:=by simp;omega
 go_enter Tryz.func80,Tryz.ntmps80
 go_wp2
 go_ret;exact ⟨rfl,Below.refl _ _⟩
theorem FV {A B:List Nd} {va vb:Value} {w:World} (ha:NodesAt w va A) (hb:NodesAt w vb B) (hsz:A.length≤9223372036854775807) (hzn:∀ n ∈ A,SzN n):
 Calls Tryz.prog 80 #[va,vb,.func (.func 81) #[] #[]] w fun e w'=>e= .returned (.bool (eqB A B))∧Below w.heap.size w w':=by
 obtain ⟨ad,ca,rfl,_,hl⟩:=ha;obtain ⟨bd,cb,rfl,_,hm⟩:=hb
 by_cases hn:A.length=B.length
 · rcases hl with rfl|⟨ga,oa,rfl,hga,hla⟩
   · obtain rfl:B=[]:=List.eq_nil_of_length_eq_zero (by simpa using hn.symm)
     rw [cT rfl];exact uW _ _ _ _ w
   · rcases hm with rfl|⟨gb,ob,rfl,hgb,hlb⟩
     · obtain rfl:A=[]:=List.eq_nil_of_length_eq_zero (by simpa using hn)
       rw [cT rfl];exact uW _ _ _ _ w
     · exact CK A B hn hsz hzn ga oa ca gb ob cb w hla hlb
 · rw [gO fun e=>hn (by rw [e])]
   exact FT _ _ _ _ _ _ hn w
theorem CL {A B:List Nd} {va vb:Value} {w:World} (ha:NodesAt w va A) (hb:NodesAt w vb B) (hsz:A.length≤9223372036854775807) (hzn:∀ n ∈ A,SzN n):
 Calls Tryz.prog 38 #[.agg #[va],.agg #[vb]] w fun e w'=>e= .returned (.bool (eqB A B))∧Below w.heap.size w w':=by
 have HE:Hid (∀ w1,Below w.heap.size w w1→Calls Tryz.prog 80 #[va,vb,.func (.func 81) #[] #[]] w1 fun e w'=>e= .returned (.bool (eqB A B))∧Below w1.heap.size w1 w'):=fun w1 h=>FV (ha.below h) (hb.below h) hsz hzn
 obtain ⟨ad,ca,rfl⟩:=ha.sl;obtain ⟨bd,cb,rfl⟩:=hb.sl;clear ha hb hsz hzn
 go_enter Tryz.func38,Tryz.ntmps38
 go_wp2_with (go_at_call 80;refine (HE.out _ (aR _ _ _)).mono ?_;rintro x w1 ⟨rfl,ok⟩)
 go_ret;exact ⟨rfl,aB (aR _ _ _) ok⟩
end Go.Proofs.YtpfemjlhklnfoaaGreatDoor
