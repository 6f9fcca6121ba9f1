/- Gl5, Gu3, Gi1: their declarations that are needed, laid in one text, remarks and blanks left out. -/
import Derived.Test.YtpfemjlhklnfoaaGreatDoorMh32
namespace Go.Proofs.YtpfemjlhklnfoaaGreatDoor
open Go.Shelf Go.RowKit Go.Maps Go.WideMaps
set_option maxRecDepth 100000
theorem DT (w:World):LZ w 2:=fun w1 B v ts _ hB ho hl=>by
 have HO:=aA ho;have HE:Hid (dq ts=ts):=vT (by omega);obtain ⟨ad,cap,rfl⟩:=ho.lenG;have hl2:(ts.length:Int)<2:=by omega
 have hd:decide ((ts.length:Int)<2)=true:=decide_eq_true hl2;have HQ:Hid (∃ v',Ending.returned (.slice ad ts.length cap)= .returned v'∧OwnPn w1 B v' (dq ts)∧Below B w1 w1):=⟨_,rfl,by rw [HE.out];exact HO.out,Below.refl _ _⟩;clear ho hB hl
 go_enter Tryz.func77,Tryz.ntmps77
 go_wp2
 go_ret;exact HQ.out
def KL (w:World) (B:Nat) (W:World):Prop:=Below w.heap.size w W∧(W.cell? ⟨B+1,0,none⟩=some (.slice (some ⟨B,0,none⟩) 1 1)∧B+1<W.heap.size)∧(W.cell? ⟨B+3,0,none⟩=some (.slice (some ⟨B+2,0,none⟩) 2 2)∧B+3<W.heap.size)∧NdIn W B 0 nd0 (.slice none 0 0) (.slice none 0 0)∧NodesAt W (.slice (some ⟨B,0,none⟩) 1 1) [nd0]∧NodesAt W (.slice (some ⟨B+2,0,none⟩) 2 2) [nd0,nd1]
theorem NM (w:World) (B:Nat):KeepP (KL w B):=fun _ _ ⟨h1,⟨h2,h3⟩,⟨h4,h5⟩,h6,h7,h8⟩ hb=>
 ⟨aB h1 hb,⟨(hb.cell (p:=⟨B+1,0,none⟩) h3).trans h2,Nat.lt_of_lt_of_le h3 hb.size⟩,⟨(hb.cell (p:=⟨B+3,0,none⟩) h5).trans h4,Nat.lt_of_lt_of_le h5 hb.size⟩,h6.below hb,h7.below hb,h8.below hb⟩
theorem KL.new (w W:World) (hb:Below w.heap.size w W):KL w W.heap.size ((((W.alloc (.cells #[.string ⟨#[]⟩,.int .i64 0,.int .i64 0,.int .i64 0,.slice none 0 0,.slice none 0 0] 67)).alloc (.cells #[.slice (some ⟨W.heap.size,0,none⟩) 1 1] 55)).alloc (.cells #[.string ⟨#[]⟩,.int .i64 0,.int .i64 0,.int .i64 0,.slice none 0 0,.slice none 0 0,.string ⟨#[97]⟩,.int .i64 0,.int .i64 0,.int .i64 0,.slice none 0 0,.slice none 0 0] 67)).alloc (.cells #[.slice (some ⟨W.heap.size+2,0,none⟩) 2 2] 55)):=by
 obtain ⟨Y1,h1⟩:∃ X,X=W.alloc (.cells #[.string ⟨#[]⟩,.int .i64 0,.int .i64 0,.int .i64 0,.slice none 0 0,.slice none 0 0] 67):=⟨_,rfl⟩;have s1:Y1.heap.size=W.heap.size+1:=by rw [h1];simp
 have c1:Y1.cell? ⟨W.heap.size,0,none⟩=some (.string ⟨#[]⟩)∧Y1.cell? ⟨W.heap.size,0+1,none⟩=some (.int .i64 0)∧Y1.cell? ⟨W.heap.size,0+2,none⟩=some (.int .i64 0)∧Y1.cell? ⟨W.heap.size,0+3,none⟩=some (.int .i64 0)∧Y1.cell? ⟨W.heap.size,0+4,none⟩=some (.slice none 0 0)∧Y1.cell? ⟨W.heap.size,0+5,none⟩=some (.slice none 0 0):=by
  rw [h1];refine ⟨?_,?_,?_,?_,?_,?_⟩<;>simp
 have b1:Below w.heap.size w Y1:=by rw [h1];exact aB hb (aD _ _)
 rw [←h1];obtain ⟨Y2,h2⟩:∃ X,X=Y1.alloc (.cells #[.slice (some ⟨W.heap.size,0,none⟩) 1 1] 55):=⟨_,rfl⟩;have s2:Y2.heap.size=W.heap.size+2:=by rw [h2];simp;omega
 have c2:Y2.cell? ⟨W.heap.size+1,0,none⟩=some (.slice (some ⟨W.heap.size,0,none⟩) 1 1):=by rw [h2,←s1];simp
 have b2:Below Y1.heap.size Y1 Y2:=by rw [h2];exact aD _ _
 rw [←h2];obtain ⟨Y3,h3⟩:∃ X,X=Y2.alloc (.cells #[.string ⟨#[]⟩,.int .i64 0,.int .i64 0,.int .i64 0,.slice none 0 0,.slice none 0 0,.string ⟨#[97]⟩,.int .i64 0,.int .i64 0,.int .i64 0,.slice none 0 0,.slice none 0 0] 67):=⟨_,rfl⟩;have s3:Y3.heap.size=W.heap.size+3:=by rw [h3];simp;omega
 have c3:(Y3.cell? ⟨W.heap.size+2,0,none⟩=some (.string ⟨#[]⟩)∧Y3.cell? ⟨W.heap.size+2,0+1,none⟩=some (.int .i64 0)∧Y3.cell? ⟨W.heap.size+2,0+2,none⟩=some (.int .i64 0)∧Y3.cell? ⟨W.heap.size+2,0+3,none⟩=some (.int .i64 0)∧Y3.cell? ⟨W.heap.size+2,0+4,none⟩=some (.slice none 0 0)∧Y3.cell? ⟨W.heap.size+2,0+5,none⟩=some (.slice none 0 0))∧Y3.cell? ⟨W.heap.size+2,6,none⟩=some (.string ⟨#[97]⟩)∧Y3.cell? ⟨W.heap.size+2,6+1,none⟩=some (.int .i64 0)∧Y3.cell? ⟨W.heap.size+2,6+2,none⟩=some (.int .i64 0)∧Y3.cell? ⟨W.heap.size+2,6+3,none⟩=some (.int .i64 0)∧Y3.cell? ⟨W.heap.size+2,6+4,none⟩=some (.slice none 0 0)∧Y3.cell? ⟨W.heap.size+2,6+5,none⟩=some (.slice none 0 0):=by
  rw [h3,←s2];refine ⟨⟨?_,?_,?_,?_,?_,?_⟩,?_,?_,?_,?_,?_,?_⟩<;>simp
 have b3:Below Y2.heap.size Y2 Y3:=by rw [h3];exact aD _ _
 rw [←h3];obtain ⟨Y4,h4⟩:∃ X,X=Y3.alloc (.cells #[.slice (some ⟨W.heap.size+2,0,none⟩) 2 2] 55):=⟨_,rfl⟩;have s4:Y4.heap.size=W.heap.size+4:=by rw [h4];simp;omega
 have c4:Y4.cell? ⟨W.heap.size+3,0,none⟩=some (.slice (some ⟨W.heap.size+2,0,none⟩) 2 2):=by rw [h4,←s3];simp
 have b4:Below Y3.heap.size Y3 Y4:=by rw [h4];exact aD _ _
 rw [←h4];have d1:NdIn Y4 W.heap.size 0 nd0 (.slice none 0 0) (.slice none 0 0):=NdIn.below (NdIn.below (NdIn.below (w:=Y1) ⟨c1,⟨mN _ _ _,kK _ _ _⟩,by omega⟩ b2) b3) b4;have d3:NdIn Y4 (W.heap.size+2) 0 nd0 (.slice none 0 0) (.slice none 0 0):=NdIn.below (w:=Y3) ⟨c3.1,⟨mN _ _ _,kK _ _ _⟩,by omega⟩ b4;have d4:NdIn Y4 (W.heap.size+2) 6 nd1 (.slice none 0 0) (.slice none 0 0):=NdIn.below (w:=Y3) ⟨c3.2,⟨mN _ _ _,kK _ _ _⟩,by omega⟩ b4;refine ⟨aB (aB (aB b1 b2) b3) b4,⟨?_,by omega⟩,⟨c4,by omega⟩,d1,?_,?_⟩
 · exact (b4.cell (p:=⟨W.heap.size+1,0,none⟩) (by show W.heap.size+1<_;omega)).trans ((b3.cell (p:=⟨W.heap.size+1,0,none⟩) (by show W.heap.size+1<_;omega)).trans c2)
 · refine ⟨_,1,rfl,Nat.le_refl _,Or.inr ⟨_,0,rfl,by omega,fun i hi=> ?_⟩⟩
   have:i=0:=by simpa using hi
   subst this;exact ⟨_,_,d1⟩
 · refine ⟨_,2,rfl,Nat.le_refl _,Or.inr ⟨_,0,rfl,by omega,fun i hi=> ?_⟩⟩
   have:i=0∨i=1:=by simp at hi;omega
   rcases this with rfl|rfl
   · exact ⟨_,_,d3⟩
   · exact ⟨_,_,d4⟩
theorem sX (us:List Pn) (h:us.Perm (dA [nd0,nd1] 2)):(dq us).length=1:=by
 have hl:us.length=1:=h.length_eq;rw [vT (by omega),hl]
theorem rF {P:Nd→Prop} (h0:P nd0) (h1:P nd1):∀ n ∈ [nd0,nd1],P n:=fun n hn=>by
 rcases List.mem_cons.1 hn with rfl|hn
 · exact h0
 · rw [List.mem_singleton.1 hn];exact h1
set_option maxHeartbeats 1000000 in
theorem vV {w:World} (he:Env w) (hf:FL w):
 Calls Tryz.prog 28 #[] w fun e w'=>e= .returned (.bool true)∧Below w.heap.size w w':=by
 have HNW:Hid (Calls Tryz.prog 9 #[] w fun e w'=>∃ a,e= .returned (.pointer (some a))∧Below w.heap.size w w'):=(yW w).mono fun e w' ⟨h1,h2⟩=>⟨_,h1,by rw [h2];exact aR _ _ _⟩
 have HKL0:=aA (fun W h2=>KL.new w W h2);have HKP:=aA (fun B=>NM w B);have HC1:Hid (∀ B a W,KL w B W→Calls Tryz.prog 26 #[.agg #[.slice (some ⟨B,0,none⟩) 1 1],.pointer (some a),.agg #[.slice none 0 0,.slice none 0 0,.slice none 0 0,.slice none 0 0],.bool true] W fun e w'=>e= .returned (.int .i64 0)∧Below W.heap.size W w'):=fun B a W h=>DQ h.2.2.2.1 (Nat.le_refl _) (he.below h.1) (hf.below h.1)
 have HC2:Hid (∀ B a W,KL w B W→Calls Tryz.prog 26 #[.agg #[.slice (some ⟨B+2,0,none⟩) 2 2],.pointer (some a),.agg #[.slice none 0 0,.slice none 0 0,.slice none 0 0,.slice none 0 0],.bool true] W fun e w'=>e= .returned (.int .i64 33)∧Below W.heap.size W w'):=fun B a W h=>yB (G:=[nd0,nd1]) h.2.2.2.2.2 (he.below h.1) (hf.below h.1) LI LK LO IK (rF (P:=fun n=>∀ e ∈ n.ed,0≤e.to∧e.to<(([nd0,nd1]:List Nd).length:Int)) (fun e he=>by cases he) (fun e he=>by cases he)) (by rw [LM];decide)
 have HC3:Hid (∀ B W,Calls Tryz.prog 26 #[.agg #[.slice (some ⟨B,0,none⟩) 1 1],.pointer none,.agg #[.slice none 0 0,.slice none 0 0,.slice none 0 0,.slice none 0 0],.bool true] W fun e w'=>e= .returned (.int .i64 1)∧Below W.heap.size W w'):=fun B W=>DP
 have HPN:Hid (∀ B W,KL w B W→Calls Tryz.prog 35 #[.agg #[.slice (some ⟨B+2,0,none⟩) 2 2]] W fun e w'=>∃ ad c,e= .returned (.slice ad 1 c)∧Below W.heap.size W w'):=fun B W h=>by
  refine (IP (G:=[nd0,nd1]) h.2.2.2.2.2 IK (rF (P:=fun n=>n.nm.size≤281474976710656) (by decide) (by decide)) (by decide) (DT W)).mono ?_;rintro e w' ⟨v,us,rfl,⟨hp,_⟩,ho,hb⟩;obtain ⟨ad,c,rfl⟩:=ho.lenG;exact ⟨ad,c,by rw [sX us hp],hb⟩
 have HSM:Hid (∀ B W,KL w B W→Calls Tryz.prog 38 #[.agg #[.slice (some ⟨B,0,none⟩) 1 1],.agg #[.slice (some ⟨B,0,none⟩) 1 1]] W fun e w'=>e= .returned (.bool true)∧Below W.heap.size W w'):=fun B W h=>by
  have q:=CL h.2.2.2.2.1 h.2.2.2.2.1 (by decide) sU.2;rw [cT rfl] at q;exact q
 clear he hf
 go_enter Tryz.func28,Tryz.ntmps28
 go_wp2_with (first
  |(go_at_call 9;refine HNW.out.mono ?_;rintro e w1 ⟨a,rfl,ok⟩;have HK0:=aA (HKL0.out w1 ok);obtain ⟨_,⟨k1,_⟩,⟨k3,_⟩,_⟩:=HK0.out;clear ok)
  |(have _t:=HK4;go_at_call 38;refine (HSM.out w1.heap.size _ HK4.out).mono ?_;rintro e w6 ⟨rfl,ok⟩;have HK5:=aA (HKP.out _ _ _ HK4.out ok);clear ok)
  |(have _t:=HK3;go_at_call 35;refine (HPN.out w1.heap.size _ HK3.out).mono ?_;rintro e w5 ⟨ad,c,rfl,ok⟩;have HK4:=aA (HKP.out _ _ _ HK3.out ok);obtain ⟨_,⟨k1,_⟩,⟨k3,_⟩,_⟩:=HK4.out;clear ok)
  |(have _t:=HK2;go_at_call 26;refine (HC3.out w1.heap.size _).mono ?_;rintro e w4 ⟨rfl,ok⟩;have HK3:=aA (HKP.out _ _ _ HK2.out ok);obtain ⟨_,⟨k1,_⟩,⟨k3,_⟩,_⟩:=HK3.out;clear ok)
  |(have _t:=HK1;go_at_call 26;refine (HC2.out w1.heap.size a _ HK1.out).mono ?_;rintro e w3 ⟨rfl,ok⟩;have HK2:=aA (HKP.out _ _ _ HK1.out ok);obtain ⟨_,⟨k1,_⟩,⟨k3,_⟩,_⟩:=HK2.out;clear ok)
  |(have _t:=HK0;go_at_call 26;refine (HC1.out w1.heap.size a _ HK0.out).mono ?_;rintro e w2 ⟨rfl,ok⟩;have HK1:=aA (HKP.out _ _ _ HK0.out ok);obtain ⟨_,⟨k1,_⟩,⟨k3,_⟩,_⟩:=HK1.out;clear ok))
 go_ret;exact ⟨rfl,HK5.out.1⟩
def BxW6 (w:World) (N:Nat) (v0 v1 v2 v3 v4 v5:Value):Prop:=(w.cell? ⟨N,0,none⟩=some v0∧w.cell? ⟨N,1,none⟩=some v1∧w.cell? ⟨N,2,none⟩=some v2∧w.cell? ⟨N,3,none⟩=some v3∧w.cell? ⟨N,4,none⟩=some v4∧w.cell? ⟨N,5,none⟩=some v5)∧N<w.heap.size
theorem IW (N:Nat) (v0 v1 v2 v3 v4 v5:Value):KeepP fun w1=>BxW6 w1 N v0 v1 v2 v3 v4 v5:=fun w w' h hb=>by
 obtain ⟨⟨h0,h1,h2,h3,h4,h5⟩,hN⟩:=h;exact ⟨⟨(hb.cell (p:=⟨N,0,none⟩) hN).trans h0,(hb.cell (p:=⟨N,1,none⟩) hN).trans h1,(hb.cell (p:=⟨N,2,none⟩) hN).trans h2,(hb.cell (p:=⟨N,3,none⟩) hN).trans h3,(hb.cell (p:=⟨N,4,none⟩) hN).trans h4,(hb.cell (p:=⟨N,5,none⟩) hN).trans h5⟩,Nat.lt_of_lt_of_le hN hb.size⟩
theorem BxW6.new {w:World} {N:Nat} (hN:w.heap.size=N) (v0 v1 v2 v3 v4 v5:Value):BxW6 (w.alloc (.cells #[v0,v1,v2,v3,v4,v5] 59)) N v0 v1 v2 v3 v4 v5:=by
 subst hN;refine ⟨⟨?_,?_,?_,?_,?_,?_⟩,?_⟩<;>simp
theorem oZ {L:List CV} {P:Mn} {dv:Bool} {G:List Nd} (h:pM L P dv G=0):aO P=true∧(Lo.dS G=true∧iO G=true∧eG [] G=false∧¬ (gL G).length<G.length)∧∀ k,k<G.length→vS L P dv G k=true:=by
 unfold pM at h
 by_cases h1:aO P=true
 · rw [if_pos h1] at h
   by_cases h2:rC G=true
   · rw [if_pos h2] at h
     by_cases h3:(List.range G.length).all (vS L P dv G)=true
     · refine ⟨h1,?_,fun k hk=>List.all_eq_true.1 h3 k (List.mem_range.2 hk)⟩
       unfold rC at h2;simp only [Bool.and_eq_true,Bool.not_eq_true',decide_eq_false_iff_not] at h2;exact ⟨h2.1,h2.2.1,h2.2.2.1,h2.2.2.2⟩
     · rw [if_neg h3] at h;cases h
   · rw [if_neg h2] at h;cases h
 · rw [if_neg h1] at h;cases h
end Go.Proofs.YtpfemjlhklnfoaaGreatDoor
namespace Go.Proofs.YtpfemjlhklnfoaaGreatDoor
open Go.Shelf Go.RowKit
set_option maxRecDepth 100000
theorem jM {L:List CV} {O:List Dp} {E:List Pn}:∀ {f:Nat} {rs od out:List Pn},dG L O E f rs od=some out→(od.map Pn.nm).Nodup→(out.map Pn.nm).Nodup
 |f,[],od,out,h,hn=>by
  rw [fC] at h;cases h;exact hn
 |0,x::rs,od,out,h,_=>by cases h
 |f+1,x::rs,od,out,h,hn=>by
  obtain ⟨ps,_,h2⟩:=fZ h;exact jM h2 (dQ hn)
theorem IX {L:List CV} {O:List Dp} {E K out:List Pn} {p q:Pn} (h:kE L O E p=some out) (hK:K.Perm out) (hl:K.length≤2048) (hq:q ∈ K) (more:List Pn):∃ part,kE L O E q=some part∧kE L O (K++more) q=some part:=by
 have hn:(K.map Pn.nm).Nodup:=(hK.map Pn.nm).nodup_iff.2 (jM h List.nodup_nil);have hl2:=hK.length_eq;have hto:=iK h fun q hq=>(by cases hq)
 have tk:∀ more,∀ x ∈ out,ToldP (K++more) x:=fun more x hx=>⟨x,qX hn more (hK.mem_iff.2 hx),rfl,rfl,rfl⟩
 have h':dG L O (K++[]) 3000 [p] []=some out:=iL h hto (tk []);have hc:=(mB h' (tk [])).2
 obtain ⟨part,h1,h2⟩:=qW (L:=L) (O:=O) (E:=K++[]) (out:=out) (fun x hx=>(hc x hx).resolve_left (fun k=>by cases k)) (f:=3000) (rs:=[q]) (od:=[]) (fun x hx=>by
  rw [List.mem_singleton] at hx;rw [hx];exact hK.mem_iff.1 hq) (fun x hx=>by cases hx) List.nodup_nil (by simp only [List.length_singleton,List.length_nil];omega)
 have ht:=iK h1 fun q hq=>(by cases hq)
 exact ⟨part,iL h1 ht fun x hx=>hto x (h2 x hx),iL h1 ht fun x hx=>tk more x (h2 x hx)⟩
theorem LR {E:List Pn} {q:Pn} (h:ToldP E q):q ∈ E:=by
 obtain ⟨r,hr,h1,h2,h3⟩:=h;have hm:=List.mem_of_find?_eq_some hr;have hn0:isN q.nm r=true:=List.find?_some hr;have hn:r.nm=q.nm:=of_decide_eq_true hn0
 have e:r=q:=by
  cases r;cases q
  simp only at h1 h2 h3 hn
  rw [h1,h2,h3,hn]
 exact e ▸ hm
theorem AJ {L:List CV} {P:Mn} {dv:Bool} {G:List Nd} (h:pM L P dv G=0) {i:Nat} (hi:i<G.length):(∀ q ∈ G[i].cx,q ∈ cG G G[i].ed)∧∀ e ∈ G[i].ed,∃ out u,kE L P.p (G[i].cx++cG G G[i].ed) (fI G e)=some out∧G[e.to.toNat]? =some u∧u.cx.Perm out∧u.cx.Pairwise fun p q=>ltP q p=false:=by
 have hf:=(oZ h).2.2 i hi;rw [AF hi] at hf;unfold rB at hf;simp only [Bool.and_eq_true] at hf;refine ⟨GW.1 hf.2.2.2.1,fun e he=> ?_⟩;have hc:=hf.2.2.2.2;unfold pL at hc;exact LE.1 (List.all_eq_true.1 hc e he)
theorem sY {L:List CV} {P:Mn} {dv:Bool} {G:List Nd} (h:pM L P dv G=0) {i m:Nat} (hi:i<G.length) (hm:m<G.length) {e:Eg} (he:e ∈ G[i].ed) (hto:e.to=(m:Int)) {q:Pn} (hq:q ∈ G[m].cx):
 ∃ t,∃ ht:t<G.length,1≤t∧toP G[i].ed q.nm=(t:Int)∧toP G[m].ed q.nm=(t:Int)∧G[t].a=q.a∧G[t].b=q.b∧G[t].c=q.c:=by
 obtain ⟨_,⟨hmay,hlab,htwi,_⟩,_⟩:=oZ h;have hok:=dZ hmay;obtain ⟨hi1,hi2⟩:=AJ h hi;obtain ⟨hm1,hm2⟩:=AJ h hm;obtain ⟨out,u,hc,hu,hp,hs⟩:=hi2 e he;rw [hto,Int.toNat_natCast,List.getElem?_eq_getElem hm] at hu;cases hu;have hqo:q ∈ out:=hp.mem_iff.1 hq;have hqe:=LR (iK hc (fun q hq=>(by cases hq)) q hqo)
 have hql:q ∈ cG G G[i].ed:=by
  rcases List.mem_append.1 hqe with k|k
  · exact hi1 q k
  · exact k
 obtain ⟨e1,he1,hq1⟩:=List.mem_map.1 hql;obtain ⟨e2,he2,hq2⟩:=List.mem_map.1 (hm1 q hq)
 have at':∀ {k:Nat} (hk:k<G.length) {x:Eg},x ∈ G[k].ed→fI G x=q→∃ t,∃ ht:t<G.length,1≤t∧x.to=(t:Int)∧x.lb=q.nm∧G[t].nm=q.nm∧G[t].a=q.a∧G[t].b=q.b∧G[t].c=q.c:=by
  intro k hk x hx hxq;obtain ⟨_,h1,h2⟩:=hok.edge _ (List.getElem_mem hk) x hx;obtain ⟨t,ht⟩:∃ t:Nat,x.to=(t:Int):=⟨x.to.toNat,by omega⟩;have htl:t<G.length:=by omega
  rw [oJ ht htl] at hxq;have hn:=NL hlab (List.getElem_mem hk) hx;rw [ht,zQ htl] at hn;subst hxq;exact ⟨t,htl,by omega,ht,rfl,hn,rfl,rfl,rfl⟩
 obtain ⟨t1,ht1,h11,hx1,hl1,hn1,ha1,hb1,hc1⟩:=at' hi he1 hq1;obtain ⟨t2,ht2,h21,hx2,hl2,hn2,ha2,hb2,hc2⟩:=at' hm he2 hq2;obtain ⟨o1,u1,k1,w1,p1,s1⟩:=hi2 e1 he1;obtain ⟨o2,u2,k2,w2,p2,s2⟩:=hm2 e2 he2;rw [hx1,Int.toNat_natCast,List.getElem?_eq_getElem ht1] at w1;rw [hx2,Int.toNat_natCast,List.getElem?_eq_getElem ht2] at w2;cases w1;cases w2;rw [hq1] at k1;rw [hq2] at k2;obtain ⟨part,r1,r2⟩:=IX hc hp (by have:=(hok.sm _ (List.getElem_mem hm)).1;omega) hq (cG G G[m].ed);rw [k1] at r1;rw [k2] at r2;cases r1;cases r2;have hcx:G[t1].cx=G[t2].cx:=oM p1 s1 (jM k1 List.nodup_nil) p2 s2
 have hpn:fD G[t1]=fD G[t2]:=by
  unfold fD;rw [hn1,ha1,hb1,hc1,hn2,ha2,hb2,hc2]
 have htt:t1=t2:=by
  by_cases hne:t1=t2
  · exact hne
  · have q:=vU htwi ht2 ht1 hne
    rw [kI.2 ⟨hpn,hcx⟩] at q;cases q
 subst htt;refine ⟨t1,ht1,h11,?_,?_,ha1,hb1,hc1⟩
 · rw [←hl1,IU (AH hmay _ (List.getElem_mem hi)) he1,hx1]
 · rw [←hl2,IU (AH hmay _ (List.getElem_mem hm)) he2,hx2]
end Go.Proofs.YtpfemjlhklnfoaaGreatDoor
