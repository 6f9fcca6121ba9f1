/- Rc1, Rc2, RwD, RwP, RwC: their declarations that are needed, laid in one text, remarks and blanks left out. -/
import Derived.Test.YtpfemjlhklnfoaaGreatDoorMh11
import Derived.Test.YtpfemjlhklnfoaaGreatDoorMh14
namespace Go.Proofs.YtpfemjlhklnfoaaGreatDoor
open Go.RowKit Go.Maps Go.WideMaps
set_option maxRecDepth 100000
def ahC (x y:CV):Bool:=if x.pg.nm=y.pg.nm then gtV (wG x) (wG y) else ltS x.pg.nm y.pg.nm
def kG:List CV→CV→Nat
 |[],_=>0
 |y::r,x=>if ahC y x=true then kG r x+1 else 0
def kH (R:List CV) (x:CV):List CV:=R.take (kG R x)++x::R.drop (kG R x)
theorem zD:∀ (R:List CV) (x:CV),kG R x≤R.length
 |[],_=>Nat.le_refl _
 |y::r,x=>by
  have:=zD r x
  unfold kG
  split
  · rw [List.length_cons];omega
  · exact Nat.zero_le _
theorem nX:∀ {R:List CV} {x:CV} {i:Nat} (hi:i<R.length),i<kG R x→ahC R[i] x=true
 |[],_,_,hi,_=>by cases hi
 |y::r,x,i,hi,h=>by
  unfold kG at h
  by_cases hy:ahC y x=true
  · rw [if_pos hy] at h
    cases i with
    |zero=>exact hy
    |succ j=>
     rw [List.getElem_cons_succ];exact nX (by simpa using hi) (by omega)
  · rw [if_neg hy] at h
    omega
theorem zF:∀ {R:List CV} {x:CV} {i:Nat} (hi:i<R.length),i=kG R x→ahC R[i] x=false
 |[],_,_,hi,_=>by cases hi
 |y::r,x,i,hi,h=>by
  unfold kG at h
  by_cases hy:ahC y x=true
  · rw [if_pos hy] at h
    subst h;rw [List.getElem_cons_succ];exact zF (by simpa using hi) rfl
  · rw [if_neg hy] at h
    subst h;exact Bool.eq_false_iff.2 hy
theorem iG (R:List CV) (x:CV):(kH R x).Perm (x::R):=by
 unfold kH;have h:=List.perm_middle (a:=x) (l₁:=R.take (kG R x)) (l₂:=R.drop (kG R x));rw [List.take_append_drop] at h;exact h
theorem uL (R:List CV) (x:CV):(kH R x).length=R.length+1:=by rw [(iG R x).length_eq,List.length_cons]
theorem xC (R:List CV) (x:CV):(kH R x).flatMap bU=(R.take (kG R x)).flatMap bU++bU x++(R.drop (kG R x)).flatMap bU:=by
 unfold kH;rw [List.flatMap_append,List.flatMap_cons,List.append_assoc]
def RcAt (w0 w:World) (E:Nat) (R:List CV):Prop:=(∃ v,w.heap[E]? =some (.cells #[v] 28 (0,0))∧w.ownsRow w0.heap.size 34 7 v R.length (R.flatMap bU))∧(∀ x ∈ R,PgAt w0 x.pg x.u1 x.u2 x.u3∧aI x.pg=true)∧(R.Pairwise fun x y=>eC x.pg.nm x.pg.a x.pg.b x.pg.c y=false)∧R.length≤128
theorem RcAt.lt {w0 w:World} {E:Nat} {R:List CV} (h:RcAt w0 w E R):E<w.heap.size:=by
 obtain ⟨⟨v,hv,_⟩,_⟩:=h;exact (Array.getElem?_eq_some_iff.1 hv).1
theorem RcAt.below {w0 w w':World} {E:Nat} {R:List CV} (h:RcAt w0 w E R) (hb:Below w.heap.size w w'):RcAt w0 w' E R:=by
 have hl:=h.lt;obtain ⟨⟨v,hv,ho⟩,hr⟩:=h;exact ⟨⟨v,(hb.block E hl).trans hv,bG ho hb⟩,hr⟩
theorem RcAt.new (w0 w:World):RcAt w0 (w.alloc (.cells #[.slice none 0 0] 28)) w.heap.size []:=by
 refine ⟨⟨.slice none 0 0,?_,rfl,Or.inl ⟨rfl,rfl⟩⟩,(fun x hx=>(by cases hx)),List.Pairwise.nil,(by decide)⟩;show (w.heap.push _)[w.heap.size]? =_;rw [Array.getElem?_push,if_pos rfl]
theorem RcAt.map {w0 w w':World} {E M:Nat} {R:List CV} (h:RcAt w0 w E R) (hM:∃ es cl,w.heap[M]? =some (.map es cl)) (hg:w.grownBy w' (some M)):RcAt w0 w' E R:=by
 have hl:=h.lt;obtain ⟨⟨v,hv,ho⟩,hr⟩:=h;refine ⟨⟨v,?_,gE ho hM hg⟩,hr⟩
 rw [hg.block E hl (fun q=>by
  obtain ⟨es,cl,hm⟩:=hM;rw [←Option.some.inj q,hv] at hm;cases hm)]
 exact hv
theorem zG (l:List CV) (i:Nat) (h:i<l.length):(l.flatMap bU)[i*7]? =some (.string l[i].pg.nm)∧(l.flatMap bU)[i*7+1]? =some (.int .i64 l[i].pg.a)∧(l.flatMap bU)[i*7+2]? =some (.int .i64 l[i].pg.b)∧(l.flatMap bU)[i*7+3]? =some (.int .i64 l[i].pg.c)∧(l.flatMap bU)[i*7+4]? =some l[i].u1∧(l.flatMap bU)[i*7+5]? =some l[i].u2∧(l.flatMap bU)[i*7+6]? =some l[i].u3:=by
 haveI:Inhabited CV:=⟨l[i]⟩
 have h0:=bK bU 7 (fun _=>rfl) l i 0 h (by decide);have h1:=bK bU 7 (fun _=>rfl) l i 1 h (by decide);have h2:=bK bU 7 (fun _=>rfl) l i 2 h (by decide);have h3:=bK bU 7 (fun _=>rfl) l i 3 h (by decide);have h4:=bK bU 7 (fun _=>rfl) l i 4 h (by decide);have h5:=bK bU 7 (fun _=>rfl) l i 5 h (by decide);have h6:=bK bU 7 (fun _=>rfl) l i 6 h (by decide);rw [getElem!_pos l i h] at h0 h1 h2 h3 h4 h5 h6;exact ⟨h0,h1,h2,h3,h4,h5,h6⟩
def PkIn (w:World) (g o:Nat) (x:CV):Prop:=w.cell? ⟨g,o,none⟩=some (.string x.pg.nm)∧w.cell? ⟨g,o+1,none⟩=some (.int .i64 x.pg.a)∧w.cell? ⟨g,o+2,none⟩=some (.int .i64 x.pg.b)∧w.cell? ⟨g,o+3,none⟩=some (.int .i64 x.pg.c)∧w.cell? ⟨g,o+4,none⟩=some x.u1∧w.cell? ⟨g,o+5,none⟩=some x.u2∧w.cell? ⟨g,o+6,none⟩=some x.u3
theorem FH {w:World} {B:Nat} {v:Value} {R:List CV} (h:w.ownsRow B 34 7 v R.length (R.flatMap bU)) (hn:0<R.length):∃ g cap,B≤g∧g<w.heap.size∧v= .slice (some ⟨g,0,none⟩) R.length cap∧R.length≤cap∧∀ i (hi:i<R.length),PkIn w g (i*7) R[i]:=by
 obtain ⟨g,cap,h1,h2,h3,h4,q⟩:=kD h hn;refine ⟨g,cap,h1,h2,h3,h4,fun i hi=> ?_⟩;obtain ⟨e0,e1,e2,e3,e4,e5,e6⟩:=zG R i hi;exact ⟨q _ _ e0,q _ _ e1,q _ _ e2,q _ _ e3,q _ _ e4,q _ _ e5,q _ _ e6⟩
theorem PkIn.below {w w':World} {g o:Nat} {x:CV} (h:PkIn w g o x) {B:Nat} (hb:Below B w w') (hg:g<B):PkIn w' g o x:=by
 obtain ⟨h0,h1,h2,h3,h4,h5,h6⟩:=h;have q:∀ i,w'.cell? ⟨g,i,none⟩=w.cell? ⟨g,i,none⟩:=fun i=>hb.cell (p:=⟨g,i,none⟩) hg
 exact ⟨by rw [q];exact h0,by rw [q];exact h1,by rw [q];exact h2,by rw [q];exact h3,by rw [q];exact h4,by rw [q];exact h5,by rw [q];exact h6⟩
theorem dC {w:World} {P:Pg} {v1 v2 v3:Value} (h:PgAt w P v1 v2 v3):(∃ a n c,v1= .slice a n c)∧(∃ a n c,v2= .slice a n c)∧∃ a n c,v3= .slice a n c:=by
 obtain ⟨⟨a1,c1,e1,_⟩,⟨a2,c2,e2,_⟩,a3,c3,e3,_⟩:=h;exact ⟨⟨_,_,_,e1⟩,⟨_,_,_,e2⟩,_,_,_,e3⟩
theorem uM {w:World} {R:List CV} (h:∀ x ∈ R,PgAt w x.pg x.u1 x.u2 x.u3):∀ u ∈ R.flatMap bU,u.oneCell'=true:=fun u hu=>by
 obtain ⟨x,hx,hu⟩:=List.mem_flatMap.1 hu;obtain ⟨⟨a1,n1,c1,e1⟩,⟨a2,n2,c2,e2⟩,a3,n3,c3,e3⟩:=dC (h x hx);simp [bU,e1,e2,e3] at hu
 rcases hu with rfl|rfl|rfl|rfl|rfl|rfl|rfl<;>rfl
theorem MX {R:List CV} {s:ByteArray} {a b c:Int} {i:Nat} (hi:i<R.length) (h:eC s a b c R[i]=true) (hb:∀ j (hj:j<R.length),j<i→eC s a b c R[j]=false):bJ R s a b c=some R[i]:=by
 unfold bJ;rw [List.find?_eq_some_iff_getElem];refine ⟨h,i,hi,rfl,fun j hj=> ?_⟩;rw [hb j (by omega) hj];rfl
theorem JY {R:List CV} {s:ByteArray} {a b c:Int} (hb:∀ j (hj:j<R.length),j<R.length→eC s a b c R[j]=false):bJ R s a b c=none:=by
 unfold bJ;rw [List.find?_eq_none];intro x hx;obtain ⟨j,hj,rfl⟩:=List.getElem_of_mem hx;rw [hb j hj hj];decide
set_option maxHeartbeats 6400000 in
theorem nY {w0 w:World} {E:Nat} {R:List CV} (h:RcAt w0 w E R) (s:ByteArray) (a b c:Int):Calls Tryz.prog 16 #[.pointer (some ⟨E,0,none⟩),.string s,.agg #[.int .i64 a,.int .i64 b,.int .i64 c]] w fun e w'=>e= .returned (.tuple #[iM R s a b c,.bool (bJ R s a b c).isSome])∧Below w.heap.size w w':=by
 have hE:=h.lt;obtain ⟨⟨v,hv,ho⟩,hR,_,hl⟩:=h;have e0:w.cell? ⟨E,0,none⟩=some v:=by simp [World.cell?,hv]
 obtain ⟨av,cv,rfl⟩:=bN ho;have HO:=aA ho;have HR:Hid (∀ x ∈ R,(∃ a n c,x.u1= .slice a n c)∧(∃ a n c,x.u2= .slice a n c)∧∃ a n c,x.u3= .slice a n c):=fun x hx=>dC (hR x hx).1
 clear ho hv hR;have HW:Hid (Below w.heap.size w ((w.alloc (.cells #[.int .i64 a,.int .i64 b,.int .i64 c] 31)).alloc (.cells #[.string ⟨#[]⟩,.int .i64 0,.int .i64 0,.int .i64 0,.slice none 0 0,.slice none 0 0,.slice none 0 0] 34))):=aR _ _ _;have c0:((w.alloc (.cells #[.int .i64 a,.int .i64 b,.int .i64 c] 31)).alloc (.cells #[.string ⟨#[]⟩,.int .i64 0,.int .i64 0,.int .i64 0,.slice none 0 0,.slice none 0 0,.slice none 0 0] 34)).cell? ⟨w.heap.size,0,none⟩=some (.int .i64 a):=by simp
 have c1:((w.alloc (.cells #[.int .i64 a,.int .i64 b,.int .i64 c] 31)).alloc (.cells #[.string ⟨#[]⟩,.int .i64 0,.int .i64 0,.int .i64 0,.slice none 0 0,.slice none 0 0,.slice none 0 0] 34)).cell? ⟨w.heap.size,1,none⟩=some (.int .i64 b):=by simp
 have c2:((w.alloc (.cells #[.int .i64 a,.int .i64 b,.int .i64 c] 31)).alloc (.cells #[.string ⟨#[]⟩,.int .i64 0,.int .i64 0,.int .i64 0,.slice none 0 0,.slice none 0 0,.slice none 0 0] 34)).cell? ⟨w.heap.size,2,none⟩=some (.int .i64 c):=by simp
 have BR:=aA (BxPF.new (w:=w.alloc (.cells #[.int .i64 a,.int .i64 b,.int .i64 c] 31)) (N:=w.heap.size+1) (by simp) ⟨#[]⟩ 0 0 0 (.slice none 0 0) (.slice none 0 0) (.slice none 0 0));have hlt0:w.heap.size<((w.alloc (.cells #[.int .i64 a,.int .i64 b,.int .i64 c] 31)).alloc (.cells #[.string ⟨#[]⟩,.int .i64 0,.int .i64 0,.int .i64 0,.slice none 0 0,.slice none 0 0,.slice none 0 0] 34)).heap.size:=by simp;omega
 have HFIN:Hid (∀ W2 (v:Value) (q:Bool),Below w.heap.size w W2→v=iM R s a b c→q=(bJ R s a b c).isSome→∀ u0 u1 u2 u3 u4 u5 u6,Ending.returned (.tuple #[v,.bool q])= .returned (.tuple #[iM R s a b c,.bool (bJ R s a b c).isSome])∧Below w.heap.size w (((((((W2.setCell ⟨w.heap.size+1,0,none⟩ u0).setCell ⟨w.heap.size+1,1,none⟩ u1).setCell ⟨w.heap.size+1,2,none⟩ u2).setCell ⟨w.heap.size+1,3,none⟩ u3).setCell ⟨w.heap.size+1,4,none⟩ u4).setCell ⟨w.heap.size+1,5,none⟩ u5).setCell ⟨w.heap.size+1,6,none⟩ u6)):=fun W2 v q hb h1 h2 u0 u1 u2 u3 u4 u5 u6=>⟨by rw [h1,h2],dM (by omega) hb⟩
 have hgv:=iW
 go_enter Tryz.func16,Tryz.ntmps16
 go_wp2_with fail
 generalize ((w.alloc (.cells #[.int .i64 a,.int .i64 b,.int .i64 c] 31)).alloc (.cells #[.string ⟨#[]⟩,.int .i64 0,.int .i64 0,.int .i64 0,.slice none 0 0,.slice none 0 0,.slice none 0 0] 34))=W at*
 go_loopw [8] (fun vi wr=>∃ i:Nat,i≤R.length∧vi= .int .i64 i∧Below W.heap.size W wr∧∀ j (hj:j<R.length),j<i→eC s a b c R[j]=false) (fun vi _=>R.length - (intOf vi).toNat)
 case atStart=>exact ⟨0,Nat.zero_le _,rfl,Below.refl _ _,fun j hj h=>by omega⟩
 case round=>
  obtain ⟨i,hi,rfl,hbw,hno⟩:=hrel;have HB:=aA hbw;have HNO:=aA hno;have HBW:Hid (Below w.heap.size w wr):=aB HW.out hbw;have HBR:=aA (cV _ _ _ _ _ _ _ _ _ _ BR.out hbw);have d0:=(hbw.cell (p:=⟨w.heap.size,0,none⟩) hlt0).trans c0;have d1:=(hbw.cell (p:=⟨w.heap.size,1,none⟩) hlt0).trans c1;have d2:=(hbw.cell (p:=⟨w.heap.size,2,none⟩) hlt0).trans c2;have f0:=(HBW.out.cell (p:=⟨E,0,none⟩) hE).trans e0;clear hbw hno c0 c1 c2 e0
  by_cases hlt:i<R.length
  · have hki:(i:Int)<(R.length:Int):=by omega
    obtain ⟨g,cap,_,hg,hvv,hcap,hcells⟩:=FH HO.out (by omega);injection hvv with hq1 _ hq2
    subst hq1;subst hq2;obtain ⟨p0,p1,p2,p3,p4,p5,p6⟩:=(hcells i hlt).below HBW.out hg;obtain ⟨⟨a1,n1,k1,q1⟩,⟨a2,n2,k2,q2⟩,a3,n3,k3,q3⟩:=HR.out _ (List.getElem_mem hlt);have HYES:Hid (eC s a b c R[i]=true→bJ R s a b c=some R[i]):=fun h=>MX hlt h HNO.out
    have HNXT:Hid (eC s a b c R[i]=false→∀ j (hj:j<R.length),j<i+1→eC s a b c R[j]=false):=fun h j hj hji=>by
     by_cases e:j=i
     · subst e;exact h
     · exact HNO.out j hj (by omega)
    have HCV:Hid (cvV R[i]= .agg #[.string R[i].pg.nm,.int .i64 R[i].pg.a,.int .i64 R[i].pg.b,.int .i64 R[i].pg.c,.slice a1 n1 k1,.slice a2 n2 k2,.slice a3 n3 k3]):=by
     unfold Hid cvV;rw [q1,q2,q3]
    rw [q1] at p4;rw [q2] at p5;rw [q3] at p6;clear hcells q1 q2 q3;generalize R[i]=x at*
    by_cases hnm:x.pg.nm=s
    · have hev:=vX x.pg.a x.pg.b x.pg.c a b c
      by_cases hxy:x.pg.a=a∧x.pg.b=b∧x.pg.c=c
      · rw [decide_eq_true hxy] at hev
        have HX:=aA (HYES.out (decide_eq_true ⟨hnm,hxy.1,hxy.2.1,hxy.2.2⟩));rw [hnm] at p0 HCV;clear hnm hxy HNXT HYES;obtain ⟨⟨r0,r1,r2,r3,r4,r5,r6,r7⟩,hfz⟩:=HBR.out;have f0':=hfz 0 (by decide);have f1':=hfz 1 (by decide);have f2':=hfz 2 (by decide);have f3':=hfz 3 (by decide);have f4':=hfz 4 (by decide);have f5':=hfz 5 (by decide);have f6':=hfz 6 (by decide);clear hfz;generalize x.pg.a=xa at*;generalize x.pg.b=xb at*;generalize x.pg.c=xc at*;have s7:=fun (m:Nat) u0 u1 u2 u3 u4 u5 u6=>ET (w:=wr.drewN m) (N:=w.heap.size+1) (by simpa using r0) (by simpa using r1) (by simpa using r2) (by simpa using r3) (by simpa using r4) (by simpa using r5) (by simpa using r6) u0 u1 u2 u3 u4 u5 u6
        go_wp2_with fail
        go_quiet (fail)
        go_wp2_with fail
        all_goals try simp only [Exit.inBlock,Exit.then]
        refine bodyPost_ret (by simp [results,Tryz.results16,s7,go_sem];try rfl) rfl ?_;exact HFIN.out _ _ _ (Go.Proofs.YtpfemjlhklnfoaaGreatDoor.Below.drewN HBW.out _) (by rw [iM,HX.out];exact HCV.out.symm) (by rw [HX.out];rfl) _ _ _ _ _ _ _
      · have HX:=aA (HNXT.out (decide_eq_false fun q=>hxy q.2))
        rw [decide_eq_false hxy] at hev;rw [hnm] at p0;clear hnm hxy HNXT HYES
        go_wp2_with fail
        go_quiet (fail)
        go_wp2_with fail
        exact ⟨⟨i+1,by omega,by go_num,Go.Proofs.YtpfemjlhklnfoaaGreatDoor.Below.drewN HB.out _,HX.out⟩,by simp [intOf];omega⟩
    · have HX:=aA (HNXT.out (decide_eq_false fun q=>hnm q.1))
      have hne:(x.pg.nm.toList==s.toList)=false:=by
       rw [beq_eq_false_iff_ne];exact fun e=>hnm (bO e)
      clear hnm HNXT HYES;generalize x.pg.nm=n at*
      go_wp2_with fail
      go_quiet (fail)
      go_wp2_with fail
      exact ⟨⟨i+1,by omega,by go_num,Go.Proofs.YtpfemjlhklnfoaaGreatDoor.Below.drewN HB.out _,HX.out⟩,by simp [intOf];omega⟩
  · obtain rfl:i=R.length:=by omega
    have hki:¬ ((R.length:Int)<(R.length:Int)):=by omega
    have HX:Hid (bJ R s a b c=none):=JY HNO.out;obtain ⟨⟨r0,r1,r2,r3,r4,r5,r6,r7⟩,hfz⟩:=HBR.out;have f0':=hfz 0 (by decide);have f1':=hfz 1 (by decide);have f2':=hfz 2 (by decide);have f3':=hfz 3 (by decide);have f4':=hfz 4 (by decide);have f5':=hfz 5 (by decide);have f6':=hfz 6 (by decide);clear hfz;have s7:=fun u0 u1 u2 u3 u4 u5 u6=>ET r0 r1 r2 r3 r4 r5 r6 u0 u1 u2 u3 u4 u5 u6
    go_wp2_with fail
    all_goals try simp only [Exit.inBlock,Exit.then]
    refine bodyPost_ret (by simp [results,Tryz.results16,s7,go_sem];try rfl) rfl ?_;exact HFIN.out _ _ _ HBW.out (by rw [iM,HX.out];rfl) (by rw [HX.out];rfl) _ _ _ _ _ _ _
set_option maxHeartbeats 3200000 in
theorem xD (x y:CV) {a1 a2 a3 b1 b2 b3:Option Addr} {n1 n2 n3 m1 m2 m3 c1 c2 c3 d1 d2 d3:Nat} (w:World) (hx:x.pg.nm.size≤9223372036854775807):Calls Tryz.prog 46 #[.agg #[.string x.pg.nm,.int .i64 x.pg.a,.int .i64 x.pg.b,.int .i64 x.pg.c,.slice a1 n1 c1,.slice a2 n2 c2,.slice a3 n3 c3],.agg #[.string y.pg.nm,.int .i64 y.pg.a,.int .i64 y.pg.b,.int .i64 y.pg.c,.slice b1 m1 d1,.slice b2 m2 d2,.slice b3 m3 d3]] w fun e w'=>e= .returned (.bool (ahC x y))∧Below w.heap.size w w':=by
 have HL:Hid (∀ w1,Calls Tryz.prog 90 #[.string x.pg.nm,.string y.pg.nm] w1 fun e w'=>e= .returned (.bool (ltS x.pg.nm y.pg.nm))∧Below w1.heap.size w1 w'):=fun w1=>wP _ _ w1 hx
 have HC:Hid (∀ w1,Calls Tryz.prog 91 #[.agg #[.int .i64 x.pg.a,.int .i64 x.pg.b,.int .i64 x.pg.c],.agg #[.int .i64 y.pg.a,.int .i64 y.pg.b,.int .i64 y.pg.c]] w1 fun e w'=>e= .returned (.int .i64 (bR x.pg.a x.pg.b x.pg.c y.pg.a y.pg.b y.pg.c))∧Below w1.heap.size w1 w'):=fun w1=>rG _ _ _ _ _ _ w1
 have HG:Hid (decide (0<bR x.pg.a x.pg.b x.pg.c y.pg.a y.pg.b y.pg.c)=gtV (wG x) (wG y)):=by
  unfold Hid gtV wG bR;rw [Bool.eq_iff_iff,decide_eq_true_eq,decide_eq_true_eq]
  simp only
  repeat' split
  all_goals omega
 by_cases hn:x.pg.nm=y.pg.nm
 · have HA:Hid (ahC x y=gtV (wG x) (wG y)):=by unfold Hid ahC;rw [if_pos hn]
   rw [hn];clear HL hn hx;generalize bR x.pg.a x.pg.b x.pg.c y.pg.a y.pg.b y.pg.c=k at*
   go_enter Tryz.func46,Tryz.ntmps46
   go_wp2_with (go_at_call 91;refine (HC.out _).mono ?_;rintro e w1 ⟨rfl,hb⟩)
   all_goals go_ret
   all_goals exact ⟨by first|exact aC (by rw [HA.out,←HG.out])|(rw [HA.out,←HG.out];simp_all),aB (aR _ _ _) hb⟩
 · have HA:Hid (ahC x y=ltS x.pg.nm y.pg.nm):=by unfold Hid ahC;rw [if_neg hn]
   have hne:(x.pg.nm.toList==y.pg.nm.toList)=false:=by
    rw [beq_eq_false_iff_ne];exact fun e=>hn (bO e)
   clear HC HG hn hx;generalize ltS x.pg.nm y.pg.nm=k at*;generalize x.pg.nm=n at*;generalize y.pg.nm=m at*
   go_enter Tryz.func46,Tryz.ntmps46
   go_wp2_with (go_at_call 90;refine (HL.out _).mono ?_;rintro e w1 ⟨rfl,hb⟩)
   go_ret;exact ⟨aC HA.out.symm,aB (aR _ _ _) hb⟩
end Go.Proofs.YtpfemjlhklnfoaaGreatDoor
namespace Go.Proofs.YtpfemjlhklnfoaaGreatDoor
open Go.ChangeShapes Go.WideShapes Go.ChangeAt Go.RowKit
set_option maxRecDepth 100000
theorem qI:Tryz.prog.cellsOf 9=1:=by kernel_rfl
theorem FI:Tryz.prog.cellsOf 39=1:=by kernel_rfl
theorem FJ:Tryz.prog.cellsOf 89=2:=by kernel_rfl
theorem iH:Tryz.prog.cellsOf 32=1:=by kernel_rfl
theorem eE {α:Type} {P:Nat→α→Prop}:∀ {n:Nat},(∀ i,i<n→∃ s,P i s)→∃ L:List α,L.length=n∧∀ i (h:i<L.length),P i L[i]
 |0,_=>⟨[],rfl,fun i h=>by simp at h⟩
 |n+1,h=>by
  obtain ⟨L,hl,hP⟩:=eE (n:=n) fun i hi=>h i (by omega)
  obtain ⟨s,hs⟩:=h n (by omega);refine ⟨L++[s],by simp [hl],fun i hi=> ?_⟩
  by_cases hin:i<L.length
  · rw [List.getElem_append_left hin];exact hP i hin
  · have:i=n:=by simp at hi;omega
    subst this
    simpa [hl] using hs
theorem eF {cs:List Value} {o:Nat} {v:Value} (h:(cs.drop o).take 1=[v]):cs[o]? =some v:=by
 have h0:((cs.drop o).take 1)[0]? =some v:=by rw [h];rfl
 simpa using h0
theorem FK {H:Type} {enc:TypeId×Value→H} {W:World} {base fuel:Nat} {held:Bool} {cs:List Value} {x:DataW H×List MemPlace} (h:DataW.trod enc Tryz.prog W base (fun _=>true) held fuel 39 cs=some x):
 ∃ v L,cs=[v]∧SpansC W v L∧L.length≤9223372036854775807:=by
 rcases Go.Deep.open_slice Tryz.underlying39 h with ⟨rfl,_⟩|⟨ad,l,c,m,n,D,Pl,rfl,_,hl,hm,_⟩
 · obtain ⟨L,hL⟩:=nG h
   obtain ⟨a',c',e,_⟩:=hL.1;cases L with
   |nil=>exact ⟨_,[],rfl,hL,by simp⟩
   |cons s L=>simp at e
 · obtain ⟨L,hL⟩:=nG h
   refine ⟨_,L,rfl,hL,?_⟩;obtain ⟨a',c',e,_⟩:=hL.1;simp only [Value.slice.injEq] at e;obtain ⟨_,rfl,_⟩:=e;unfold maxLen at hm;omega
theorem FM {H:Type} {enc:TypeId×Value→H} {W:World} {base:Nat} {held:Bool} {n:Nat} {g o:Nat} {cs:List Value} {x:DataW H×List MemPlace} (hc:W.cells? base ⟨g,o,none⟩ 2=some cs) (h:DataW.trod enc Tryz.prog W base (fun _=>true) held n 89 cs=some x):∃ d:Dp,(∃ u,DpIn W g o d u)∧d.nm.size≤9223372036854775807:=by
 have hs:Tryz.prog.underlying 89=some (.struct (Tryz.prog.fieldsOf 89)):=by kernel_rfl
 obtain ⟨xs,n',_,_,_,hxl,hf⟩:=DataW.trod_struct hs h;have hsz:(Tryz.prog.fieldsOf 89).size=2:=by kernel_rfl
 obtain ⟨_,hcl,hq⟩:=World.cells?_some hc;obtain ⟨f0,i0,t0,o0⟩:=bB (fs:=Tryz.prog.fieldsOf 89) (i:=0) (ty:=9) (off:=0) (by kernel_rfl);obtain ⟨f1,i1,t1,o1⟩:=bB (fs:=Tryz.prog.fieldsOf 89) (i:=1) (ty:=39) (off:=1) (by kernel_rfl);have r0:=hf 0 f0 i0;have r1:=hf 1 f1 i1;rw [t0,o0,qI,List.getElem?_eq_getElem (by omega:0<xs.length)] at r0;rw [t1,o1,FI,List.getElem?_eq_getElem (by omega:1<xs.length)] at r1;obtain ⟨s,e0,_,hs0⟩:=DataW.trod_string Tryz.underlying9 r0;obtain ⟨v,L,e1,hL,hz⟩:=FK r1;have q0:=hq 0 (by decide);have q1:=hq 1 (by decide);have ad:∀ i,(⟨g,o,none⟩:Addr).add i=⟨g,o+i,none⟩:=fun i=>by unfold Addr.add;split<;>simp_all
 rw [ad,eF e0] at q0;rw [ad,eF e1] at q1;exact ⟨⟨s,L⟩,⟨v,q0,q1,⟨hL,hz⟩,dI q1⟩,by unfold maxLen at hs0;exact hs0⟩
theorem mJ {H:Type} {enc:TypeId×Value→H} {W:World} {base fuel:Nat} {held:Bool} {cs:List Value} {x:DataW H×List MemPlace} (h:DataW.trod enc Tryz.prog W base (fun _=>true) held fuel 32 cs=some x):
 ∃ v L,cs=[v]∧DepsAt W v L∧L.length≤9223372036854775807∧∀ d ∈ L,d.nm.size≤9223372036854775807:=by
 rcases Go.Deep.open_slice Tryz.underlying32 h with ⟨rfl,_⟩|⟨ad,len,cap,m,n,D,Pl,rfl,_,hl,hcm,hm,hx,hel⟩
 · exact ⟨_,[],rfl,⟨none,0,rfl,Nat.le_refl _,Or.inl rfl⟩,by simp,(fun d hd=>by cases hd)⟩
 · have hz:len≤9223372036854775807:=by unfold maxLen at hcm;omega
   rcases Nat.eq_zero_or_pos len with h0|h0
   · subst h0
     exact ⟨_,[],rfl,⟨_,_,rfl,Nat.zero_le _,Or.inl rfl⟩,by simp,(fun d hd=>by cases hd)⟩
   · have hmm:len≤m:=by rw [hm];simp;exact hl
     rw [FJ] at hel;obtain ⟨g,off,spot⟩:=ad;obtain ⟨cs0,hc0,_⟩:=hel 0 (by omega);obtain ⟨_,hln,hq⟩:=World.cells?_some hc0;have hcell:=hq 0 (by decide);rw [List.getElem?_eq_getElem (by omega:0<cs0.length)] at hcell;have hspot:spot=none:=by simpa [Addr.add] using World.cell?_spot hcell
     subst hspot;have ad2:∀ o i,(⟨g,o,none⟩:Addr).add i=⟨g,o+i,none⟩:=fun o i=>by unfold Addr.add;split<;>simp_all
     obtain ⟨L,hL,hP⟩:=eE (P:=fun i (d:Dp)=>(∃ u,DpIn W g (off+i*2) d u)∧d.nm.size≤9223372036854775807) (n:=len) fun i hi=>by
      obtain ⟨cs,hc,ht⟩:=hel i (by omega);rw [ad2] at hc;exact FM hc ht
     subst hL;refine ⟨_,L,rfl,⟨_,_,rfl,hl,Or.inr ⟨g,off,rfl,?_,fun i hi=>(hP i hi).1⟩⟩,hz,?_⟩
     · have:=dI hcell
       rw [ad2,ad2] at this;exact this
     · intro d hd
       obtain ⟨i,hi,rfl⟩:=List.getElem_of_mem hd;exact (hP i hi).2
theorem FN:Tryz.prog.cellsOf 34=7:=by kernel_rfl
theorem CD:Tryz.prog.cellsOf 22=1:=by kernel_rfl
theorem OA {H:Type} {enc:TypeId×Value→H} {W:World} {base:Nat} {spare:Nat→Bool} {held:Bool} {n:Nat} {cs:List Value} {x:DataW H×List MemPlace} (h:DataW.trod enc Tryz.prog W base spare held n 31 cs=some x):
 ∃ a b c,(cs[0]? =some (.int .i64 a)∧cs[1]? =some (.int .i64 b)∧cs[2]? =some (.int .i64 c))∧I64 a∧I64 b∧I64 c:=by
 have hs:Tryz.prog.underlying 31=some (.struct (Tryz.prog.fieldsOf 31)):=by kernel_rfl
 obtain ⟨xs,n',_,hx,_,hxl,hf⟩:=DataW.trod_struct hs h;have hfz:(Tryz.prog.fieldsOf 31).size=3:=by kernel_rfl
 have ints:∀ i off,((Tryz.prog.fieldsOf 31)[i]?).map (fun f=>(f.type,f.offset))=some (3,off)→i<3→∃ k,cs[off]? =some (.int .i64 k)∧I64 k:=by
  intro i off hfd hi;obtain ⟨f,h1,h2,h3⟩:=bB hfd;have hr:=hf i f h1;rw [h2,h3,mY,List.getElem?_eq_getElem (by omega:i<xs.length)] at hr;obtain ⟨k,e1,e2,wk⟩:=DataW.trod_int Tryz.underlying3 hr;exact ⟨k,mZ e1,wk⟩
 obtain ⟨a,a0,wa⟩:=ints 0 0 (by kernel_rfl) (by decide);obtain ⟨b,a1,wb⟩:=ints 1 1 (by kernel_rfl) (by decide);obtain ⟨c,a2,wc⟩:=ints 2 2 (by kernel_rfl) (by decide);exact ⟨a,b,c,⟨a0,a1,a2⟩,wa,wb,wc⟩
def lH (P:Pg):Prop:=(P.d.length≤9223372036854775807∧P.p.length≤9223372036854775807∧P.o.length≤9223372036854775807)∧(P.nm.size≤9223372036854775807∧(∀ d ∈ P.d,d.nm.size≤9223372036854775807)∧(∀ d ∈ P.p,d.nm.size≤9223372036854775807)∧∀ d ∈ P.o,d.nm.size≤9223372036854775807)∧I64 P.a∧I64 P.b∧I64 P.c
theorem FO {H:Type} {enc:TypeId×Value→H} {W:World} {base:Nat} {held:Bool} {n:Nat} {g o:Nat} {cs:List Value} {x:DataW H×List MemPlace} (hc:W.cells? base ⟨g,o,none⟩ 7=some cs) (h:DataW.trod enc Tryz.prog W base (fun _=>true) held n 34 cs=some x):∃ P:Pg,(∃ v1 v2 v3,PgIn W g o P v1 v2 v3)∧lH P:=by
 have hs:Tryz.prog.underlying 34=some (.struct (Tryz.prog.fieldsOf 34)):=by kernel_rfl
 obtain ⟨xs,n',_,_,_,hxl,hf⟩:=DataW.trod_struct hs h;have hfz:(Tryz.prog.fieldsOf 34).size=5:=by kernel_rfl
 obtain ⟨_,hcl,hq⟩:=World.cells?_some hc;obtain ⟨f0,i0,t0,o0⟩:=bB (fs:=Tryz.prog.fieldsOf 34) (i:=0) (ty:=9) (off:=0) (by kernel_rfl);obtain ⟨f1,i1,t1,o1⟩:=bB (fs:=Tryz.prog.fieldsOf 34) (i:=1) (ty:=31) (off:=1) (by kernel_rfl);obtain ⟨f2,i2,t2,o2⟩:=bB (fs:=Tryz.prog.fieldsOf 34) (i:=2) (ty:=32) (off:=4) (by kernel_rfl);obtain ⟨f3,i3,t3,o3⟩:=bB (fs:=Tryz.prog.fieldsOf 34) (i:=3) (ty:=32) (off:=5) (by kernel_rfl);obtain ⟨f4,i4,t4,o4⟩:=bB (fs:=Tryz.prog.fieldsOf 34) (i:=4) (ty:=32) (off:=6) (by kernel_rfl);have r0:=hf 0 f0 i0;have r1:=hf 1 f1 i1;have r2:=hf 2 f2 i2;have r3:=hf 3 f3 i3;have r4:=hf 4 f4 i4;rw [t0,o0,qI,List.getElem?_eq_getElem (by omega:0<xs.length)] at r0;rw [t1,o1,jT,List.getElem?_eq_getElem (by omega:1<xs.length)] at r1;rw [t2,o2,iH,List.getElem?_eq_getElem (by omega:2<xs.length)] at r2;rw [t3,o3,iH,List.getElem?_eq_getElem (by omega:3<xs.length)] at r3
 rw [t4,o4,iH,List.getElem?_eq_getElem (by omega:4<xs.length)] at r4;obtain ⟨s,e0,_,hs0⟩:=DataW.trod_string Tryz.underlying9 r0;obtain ⟨a,b,c,⟨ea,eb,ec⟩,wa,wb,wc⟩:=OA r1;obtain ⟨v1,L1,e2,h1,z1,m1⟩:=mJ r2;obtain ⟨v2,L2,e3,h2,z2,m2⟩:=mJ r3;obtain ⟨v3,L3,e4,h3,z3,m3⟩:=mJ r4;have ka:((cs.drop 1).take 3)[0]? =some (.int .i64 a):=ea;have kb:((cs.drop 1).take 3)[1]? =some (.int .i64 b):=eb;have kc:((cs.drop 1).take 3)[2]? =some (.int .i64 c):=ec
 simp at ka kb kc
 have ad:∀ i,(⟨g,o,none⟩:Addr).add i=⟨g,o+i,none⟩:=fun i=>by unfold Addr.add;split<;>simp_all
 have q0:=hq 0 (by decide);have q1:=hq 1 (by decide);have q2:=hq 2 (by decide);have q3:=hq 3 (by decide);have q4:=hq 4 (by decide);have q5:=hq 5 (by decide);have q6:=hq 6 (by decide);rw [ad,eF e0] at q0;rw [ad,ka] at q1;rw [ad,kb] at q2;rw [ad,kc] at q3;rw [ad,eF e2] at q4;rw [ad,eF e3] at q5;rw [ad,eF e4] at q6;exact ⟨⟨s,a,b,c,L1,L2,L3⟩,⟨v1,v2,v3,⟨q0,q1,q2,q3,q4,q5,q6⟩,⟨h1,h2,h3⟩,dI q0⟩,⟨z1,z2,z3⟩,⟨by unfold maxLen at hs0;exact hs0,m1,m2,m3⟩,wa,wb,wc⟩
theorem JZ {H:Type} {enc:TypeId×Value→H} {W:World} {base fuel:Nat} {held:Bool} {cs:List Value} {x:DataW H×List MemPlace} (h:DataW.trod enc Tryz.prog W base (fun _=>true) held fuel 22 cs=some x):
 ∃ v L,cs=[v]∧PgsAt W v L∧L.length≤9223372036854775807∧∀ P ∈ L,lH P:=by
 rcases Go.Deep.open_slice Tryz.underlying22 h with ⟨rfl,_⟩|⟨ad,len,cap,m,n,D,Pl,rfl,_,hl,hcm,hm,hx,hel⟩
 · exact ⟨_,[],rfl,⟨none,0,rfl,Nat.le_refl _,Or.inl rfl⟩,by simp,(fun d hd=>by cases hd)⟩
 · have hz:len≤9223372036854775807:=by unfold maxLen at hcm;omega
   rcases Nat.eq_zero_or_pos len with h0|h0
   · subst h0
     exact ⟨_,[],rfl,⟨_,_,rfl,Nat.zero_le _,Or.inl rfl⟩,by simp,(fun d hd=>by cases hd)⟩
   · have hmm:len≤m:=by rw [hm];simp;exact hl
     rw [FN] at hel;obtain ⟨g,off,spot⟩:=ad;obtain ⟨cs0,hc0,_⟩:=hel 0 (by omega);obtain ⟨_,hln,hq⟩:=World.cells?_some hc0;have hcell:=hq 0 (by decide);rw [List.getElem?_eq_getElem (by omega:0<cs0.length)] at hcell;have hspot:spot=none:=by simpa [Addr.add] using World.cell?_spot hcell
     subst hspot;have ad2:∀ o i,(⟨g,o,none⟩:Addr).add i=⟨g,o+i,none⟩:=fun o i=>by unfold Addr.add;split<;>simp_all
     obtain ⟨L,hL,hP⟩:=eE (P:=fun i (d:Pg)=>(∃ v1 v2 v3,PgIn W g (off+i*7) d v1 v2 v3)∧lH d) (n:=len) fun i hi=>by
      obtain ⟨cs,hc,ht⟩:=hel i (by omega);rw [ad2] at hc;exact FO hc ht
     subst hL;refine ⟨_,L,rfl,⟨_,_,rfl,hl,Or.inr ⟨g,off,rfl,fun i hi=>(hP i hi).1⟩⟩,hz,?_⟩;intro d hd;obtain ⟨i,hi,rfl⟩:=List.getElem_of_mem hd;exact (hP i hi).2
end Go.Proofs.YtpfemjlhklnfoaaGreatDoor
