/- Gt3, Gt4, Wd1, Wd2, Wd3, Gt5: their declarations that are needed, laid in one text, remarks and blanks left out. -/
import Derived.Test.YtpfemjlhklnfoaaGreatDoorMh24
namespace Go.Proofs.YtpfemjlhklnfoaaGreatDoor
open Go.Shelf Go.RowKit Go.Maps Go.WideMaps
set_option maxRecDepth 100000
def WtIn (w:World) (g o:Nat) (x:Wt):Prop:=(w.cell? ⟨g,o,none⟩=some (.string x.nm)∧w.cell? ⟨g,o+1,none⟩=some (.int .i64 x.kd)∧w.cell? ⟨g,o+2,none⟩=some (.slice x.ad x.ln x.cp))∧g<w.heap.size
theorem WtIn.below {w w':World} {g o:Nat} {x:Wt} (h:WtIn w g o x) (hb:Below w.heap.size w w'):WtIn w' g o x:=by
 obtain ⟨⟨h0,h1,h2⟩,hg⟩:=h;exact ⟨⟨(hb.cell (p:=⟨g,o,none⟩) hg).trans h0,(hb.cell (p:=⟨g,o+1,none⟩) hg).trans h1,(hb.cell (p:=⟨g,o+2,none⟩) hg).trans h2⟩,Nat.lt_of_lt_of_le hg hb.size⟩
def WtsAt (w:World) (v:Value) (Y:List Wt):Prop:=∃ ad cap,v= .slice ad Y.length cap∧(Y=[]∨∃ g,ad=some ⟨g,0,none⟩∧g<w.heap.size∧∀ i (h:i<Y.length),WtIn w g (i*3) Y[i])
theorem WtsAt.below {w w':World} {v:Value} {Y:List Wt} (h:WtsAt w v Y) (hb:Below w.heap.size w w'):WtsAt w' v Y:=by
 obtain ⟨ad,cap,hv,hl⟩:=h;refine ⟨ad,cap,hv,hl.imp id ?_⟩;rintro ⟨g,ha,hg,hs⟩;exact ⟨g,ha,Nat.lt_of_lt_of_le hg hb.size,fun i hi=>(hs i hi).below hb⟩
theorem WtsAt.sl {w:World} {v:Value} {Y:List Wt} (h:WtsAt w v Y):∃ ad cap,v= .slice ad Y.length cap:=by
 obtain ⟨ad,cap,hv,_⟩:=h;exact ⟨ad,cap,hv⟩
theorem zZ {w:World} {B:Nat} {v:Value} {ps:List (Wt×List Sp)} {Y:List Wt} (h:OwnWt w B v ps) (hY:ps.map (·.1)=Y):WtsAt w v Y:=by
 have hl:ps.length=Y.length:=by rw [←hY,List.length_map]
 rcases Nat.eq_zero_or_pos Y.length with h0|h0
 · obtain ⟨ad,cap,rfl⟩:=h.len
   exact ⟨ad,cap,by rw [hl],Or.inl (List.eq_nil_of_length_eq_zero h0)⟩
 · have q:=h.1
   rw [hY] at q;obtain ⟨g,cap,_,hg,rfl,_,hn⟩:=kD q (by omega);refine ⟨_,cap,by rw [hl],Or.inr ⟨g,rfl,hg,fun i hi=> ?_⟩⟩;obtain ⟨e0,e1,e2⟩:=sL Y i Y[i] (List.getElem?_eq_getElem hi);exact ⟨⟨hn _ _ e0,hn _ _ e1,hn _ _ e2⟩,hg⟩
def dE:List ByteArray→ByteArray→Nat
 |[],_=>0
 |u::r,s=>(if u=s then 1 else 0)+dE r s
theorem sO:∀ (l:List ByteArray) (s:ByteArray),dE l s≤l.length
 |[],_=>Nat.le_refl _
 |u::r,s=>by
  have h:=sO r s;rw [dE,List.length_cons]
  split<;>omega
theorem lO:∀ (l:List ByteArray) (t s:ByteArray),dE (l++[t]) s=dE l s+if t=s then 1 else 0
 |[],t,s=>by simp [dE]
 |u::r,t,s=>by
  rw [List.cons_append,dE,dE,lO r t s];omega
theorem qS:∀ (l:List ByteArray) (s:ByteArray),dE l s=0↔s ∉ l
 |[],s=>by simp [dE]
 |u::r,s=>by
  have h:=qS r s;rw [dE,List.mem_cons,not_or,←h]
  by_cases e:u=s
  · rw [if_pos e]
    constructor
    · intro q;omega
    · intro q;exact absurd e.symm q.1
  · rw [if_neg e]
    constructor
    · intro q;exact ⟨fun q=>e q.symm,by omega⟩
    · intro q;omega
def cM (l:List ByteArray) (s:ByteArray):Option Value:=if dE l s=0 then none else some (.int .i64 (dE l s:Nat))
theorem xU (l:List ByteArray) (s:ByteArray):(cM l s).getD (.int .i64 0)= .int .i64 (dE l s:Nat):=by
 unfold cM
 by_cases h:dE l s=0
 · rw [if_pos h,h];rfl
 · rw [if_neg h];rfl
theorem GX (l:List ByteArray) (s u:ByteArray):(if u=s then some (.int .i64 ((dE l s:Nat)+1:Int)) else cM l u)=cM (l++[s]) u:=by
 by_cases h:u=s
 · subst h
   have e:dE (l++[u]) u=dE l u+1:=by rw [lO,if_pos rfl]
   unfold cM;rw [if_pos rfl,e,if_neg (by omega)]
   simp
 · have e:dE (l++[s]) u=dE l u:=by rw [lO,if_neg fun q=>h q.symm];omega
   unfold cM;rw [if_neg h,e]
theorem BxL.grown {w w1:World} {N:Nat} {v:Value} {own:Option Nat} (h:BxL w N v) (hg:w.grownBy w1 own) (hn:own≠some N):BxL w1 N v:=⟨hg.cell h.1 fun e=>hn e.symm,Nat.lt_of_lt_of_le h.2 hg.size⟩
theorem BxNd.grown {w w1:World} {N:Nat} {n:Nd} {vc ve:Value} {own:Option Nat} (h:BxNd w N n vc ve) (hg:w.grownBy w1 own) (hn:own≠some N):BxNd w1 N n vc ve:=by
 obtain ⟨⟨h0,h1,h2,h3,h4,h5⟩,hN⟩:=h;have q:∀ i u,w.cell? ⟨N,i,none⟩=some u→w1.cell? ⟨N,i,none⟩=some u:=fun i u h=>hg.cell h fun e=>hn e.symm
 exact ⟨⟨q _ _ h0,q _ _ h1,q _ _ h2,q _ _ h3,q _ _ h4,q _ _ h5⟩,Nat.lt_of_lt_of_le hN hg.size⟩
set_option maxHeartbeats 1600000 in
theorem mE {w:World} {N M n:Nat} {l:List ByteArray} {e:Eg} (hN:BxL w N (.map (some M))) (hm:SmAt w M n (.int .i64 0) (cM l)) (hs:e.lb.size≤9223372036854775807):
 Calls Tryz.prog 168 #[.agg #[.string e.lb,.int .i64 e.to],.pointer (some ⟨N,0,none⟩)] w fun r w'=>r= .returned (.bool (decide (dE l e.lb=0)))∧Below w.heap.size w w':=by
 have HB0:Hid (Below w.heap.size w (w.alloc (.cells #[.string e.lb,.int .i64 e.to] 77))∧BxL (w.alloc (.cells #[.string e.lb,.int .i64 e.to] 77)) N (.map (some M))):=⟨aD _ _,iJ _ _ _ _ hN (aD _ _)⟩;have hl:=(hm.below HB0.out.1).look1 Tryz.underlying210 (dY _) (s:=e.lb) (by unfold maxLen;omega);rw [xU] at hl;obtain ⟨n0,n1⟩:=HB0.out.2;clear hN hm hs
 by_cases h0:dE l e.lb=0
 · rw [decide_eq_true h0]
   rw [h0] at hl;clear h0
   go_enter Tryz.func168,Tryz.ntmps168
   go_wp2_with fail
   go_ret;exact ⟨rfl,HB0.out.1⟩
 · rw [decide_eq_false h0]
   generalize dE l e.lb=c at*;have hd:((c:Int)==0)=false:=by simp;omega
   go_enter Tryz.func168,Tryz.ntmps168
   go_wp2_with fail
   go_ret;exact ⟨aC (by simp<;>omega),HB0.out.1⟩
def LD (x:Nd) (N:List ByteArray):Bool:= !(x.ed.any fun e=>decide (dE (N++x.cx.map (·.nm)) e.lb=0))
set_option maxHeartbeats 6400000 in
theorem pK {x:Nd} {Y:List Wt} {v vc ve:Value} {w:World} (hc:PinsAt w vc x.cx) (he:EdgesAt w ve x.ed) (hw:WtsAt w v Y) (hzc:x.cx.length≤100000000) (hze:x.ed.length≤100000000) (hzw:Y.length≤100000000) (hsc:∀ q ∈ x.cx,q.nm.size≤9223372036854775807) (hse:∀ e ∈ x.ed,e.lb.size≤9223372036854775807) (hsw:∀ y ∈ Y,y.nm.size≤9223372036854775807):
 Calls Tryz.prog 114 #[.agg #[.string x.nm,.int .i64 x.a,.int .i64 x.b,.int .i64 x.c,vc,ve],v] w fun e w'=>e= .returned (.bool (LD x (Y.map (·.nm))))∧Below w.heap.size w w':=by
 have hmm:= @run_makeMap Tryz.prog;have HPC:Hid (∀ W,Below w.heap.size w W→PinsAt W vc x.cx):=fun W h=>hc.below h
 have HPW:Hid (∀ W,Below w.heap.size w W→WtsAt W v Y):=fun W h=>hw.below h
 have HSC:=aA hsc;have HSW:=aA hsw
 have HAL:Hid (∀ W N M n l,Below w.heap.size w W→BxL W N (.map (some M))→SmAt W M n (.int .i64 0) (cM l)→Calls Tryz.prog 167 #[ve,.func (.func 168) #[] #[.pointer (some ⟨N,0,none⟩)]] W fun e w'=>e= .returned (.bool (x.ed.any fun e=>decide (dE l e.lb=0)))∧Below W.heap.size W w'):=fun W N M n l hb hN hm=>
  zO (p:=fun e=>decide (dE l e.lb=0)) (he.below hb) (by omega) fun w2 h2 y hy=>mE (iJ _ _ _ _ hN h2) (hm.below h2) (hse y hy)
 obtain ⟨ac,cc,rfl⟩:=hc.sl;obtain ⟨ae,ce,rfl⟩:=he.sl;obtain ⟨av,cv,rfl⟩:=hw.sl
 have HB0:Hid ((Below w.heap.size w (((w.alloc (.cells #[.string x.nm,.int .i64 x.a,.int .i64 x.b,.int .i64 x.c,.slice ac x.cx.length cc,.slice ae x.ed.length ce] 67)).alloc (.map #[] 0)).alloc (.cells #[.map (some (w.heap.size+1))] 210))∧BxNd (((w.alloc (.cells #[.string x.nm,.int .i64 x.a,.int .i64 x.b,.int .i64 x.c,.slice ac x.cx.length cc,.slice ae x.ed.length ce] 67)).alloc (.map #[] 0)).alloc (.cells #[.map (some (w.heap.size+1))] 210)) w.heap.size x (.slice ac x.cx.length cc) (.slice ae x.ed.length ce)∧BxL (((w.alloc (.cells #[.string x.nm,.int .i64 x.a,.int .i64 x.b,.int .i64 x.c,.slice ac x.cx.length cc,.slice ae x.ed.length ce] 67)).alloc (.map #[] 0)).alloc (.cells #[.map (some (w.heap.size+1))] 210)) (w.heap.size+2) (.map (some (w.heap.size+1))))∧SmAt (((w.alloc (.cells #[.string x.nm,.int .i64 x.a,.int .i64 x.b,.int .i64 x.c,.slice ac x.cx.length cc,.slice ae x.ed.length ce] 67)).alloc (.map #[] 0)).alloc (.cells #[.map (some (w.heap.size+1))] 210)) (w.heap.size+1) 0 (.int .i64 0) (cM [])):=by
  have e1:(w.alloc (.cells #[.string x.nm,.int .i64 x.a,.int .i64 x.b,.int .i64 x.c,.slice ac x.cx.length cc,.slice ae x.ed.length ce] 67)).heap.size=w.heap.size+1:=by simp
  have q:=SmAt.new (w.alloc (.cells #[.string x.nm,.int .i64 x.a,.int .i64 x.b,.int .i64 x.c,.slice ac x.cx.length cc,.slice ae x.ed.length ce] 67)) (.int .i64 0);rw [e1] at q;exact ⟨⟨LT _ _ _ _,aZ _ _ _ _ _ _ (aZ _ _ _ _ _ _ (BxNd.new rfl x _ _) (aD _ _)) (aD _ _),BxL.new (by simp) _ _⟩,(q.below (aD _ _)).ext fun s=>rfl⟩
 clear hc he hw hsc hse hsw
 go_enter Tryz.func114,Tryz.ntmps114
 go_wp2_with fail
 go_loopw [13] (fun vi wr=>∃ k:Nat,k≤Y.length∧vi= .int .i64 k∧(Below w.heap.size w wr∧BxNd wr w.heap.size x (.slice ac x.cx.length cc) (.slice ae x.ed.length ce)∧BxL wr (w.heap.size+2) (.map (some (w.heap.size+1))))∧SmAt wr (w.heap.size+1) k (.int .i64 0) (cM ((Y.take k).map (·.nm)))) (fun vi _=>Y.length - (intOf vi).toNat)
 case atStart=>exact ⟨0,Nat.zero_le _,rfl,HB0.out⟩
 case round=>
  clear HB0;obtain ⟨k,hk,rfl,hb,hsm⟩:=hrel;have HB:=aA hb;have HS:=aA hsm;clear hsm
  by_cases hlt:k<Y.length
  · have hki:(k:Int)<(Y.length:Int):=by omega
    obtain ⟨g,rfl,hy⟩:∃ g,av=some ⟨g,0,none⟩∧WtIn wr g (k*3) Y[k]:=by
     obtain ⟨ad',cap',e,hcs⟩:=HPW.out wr hb.1;cases e
     rcases hcs with h|⟨g,ha,_,hs⟩
     · rw [h] at hlt;simp at hlt
     · exact ⟨g,ha,hs k hlt⟩
    have hnm:=HSW.out _ (List.getElem_mem hlt)
    have HTK:Hid ((Y.take (k+1)).map (·.nm)=(Y.take k).map (·.nm)++[Y[k].nm]):=by
     unfold Hid;rw [List.take_succ_eq_append_getElem hlt,List.map_append];rfl
    have hcn:dE ((Y.take k).map (·.nm)) Y[k].nm≤100000000:=Nat.le_trans (sO _ _) (by rw [List.length_map,List.length_take];omega);generalize Y[k]=y at*;obtain ⟨⟨y0,y1,y2⟩,_⟩:=hy;generalize (Y.take k).map (·.nm)=l at*;have HK1:Hid ((Below w.heap.size w (wr.alloc (.cells #[.string y.nm,.int .i64 y.kd,.slice y.ad y.ln y.cp] 161))∧BxNd (wr.alloc (.cells #[.string y.nm,.int .i64 y.kd,.slice y.ad y.ln y.cp] 161)) w.heap.size x (.slice ac x.cx.length cc) (.slice ae x.ed.length ce)∧BxL (wr.alloc (.cells #[.string y.nm,.int .i64 y.kd,.slice y.ad y.ln y.cp] 161)) (w.heap.size+2) (.map (some (w.heap.size+1))))∧SmAt (wr.alloc (.cells #[.string y.nm,.int .i64 y.kd,.slice y.ad y.ln y.cp] 161)) (w.heap.size+1) k (.int .i64 0) (cM l)):=⟨⟨aB hb.1 (aD _ _),aZ _ _ _ _ _ _ hb.2.1 (aD _ _),iJ _ _ _ _ hb.2.2 (aD _ _)⟩,HS.out.below (aD _ _)⟩
    have hl:=HK1.out.2.look1 Tryz.underlying210 (dY _) (s:=y.nm) (by unfold maxLen;omega);rw [xU] at hl;obtain ⟨w2,hrun,hs2,hg2⟩:=HK1.out.2.put Tryz.underlying210 (by unfold maxLen;omega) (s:=y.nm) (by unfold maxLen;omega) (.int .i64 ((dE l y.nm:Nat)+1:Int))
    have HS2:Hid (SmAt w2 (w.heap.size+1) (k+1) (.int .i64 0) (cM ((Y.take (k+1)).map (·.nm)))):=by
     rw [HTK.out];exact hs2.ext fun u=>GX l y.nm u
    have HK2:Hid ((Below w.heap.size w w2∧BxNd w2 w.heap.size x (.slice ac x.cx.length cc) (.slice ae x.ed.length ce)∧BxL w2 (w.heap.size+2) (.map (some (w.heap.size+1))))):=⟨HK1.out.1.1.grown hg2 HK1.out.1.1.size (fun j hj=>by cases hj;omega),HK1.out.1.2.1.grown hg2 (fun e=>by have:=Option.some.inj e;omega),HK1.out.1.2.2.grown hg2 (fun e=>by have:=Option.some.inj e;omega)⟩;obtain ⟨⟨_,_,n0,n1⟩,_⟩:=HK1.out;generalize dE l y.nm=c at*;clear hs2 hg2 hb HTK
    go_wp2_with fail
    exact ⟨⟨k+1,by omega,by go_num,HK2.out,HS2.out⟩,by simp [intOf];omega⟩
  · obtain rfl:k=Y.length:=by omega
    have HSZ:Hid (SmAt wr (w.heap.size+1) Y.length (.int .i64 0) (cM (Y.map (·.nm)++(x.cx.take 0).map (·.nm)))):=by
     have e:=HS.out;rw [List.take_length] at e;rw [show (x.cx.take 0).map (·.nm)=[] from rfl,List.append_nil];exact e
    obtain ⟨⟨z0,z1,z2,z3,z4,z5⟩,z6⟩:=hb.2.1;have hki:¬ ((Y.length:Int)<(Y.length:Int)):=by omega
    clear hb HS;have HLN:Hid ((Y.map (·.nm)).length=Y.length):=List.length_map ..;generalize hN:Y.map (·.nm)=N at*;have HNE:=aA hN;clear hN;generalize Y.length=ly at*
    go_wp2_with fail
    clear z0 z1 z2 z3 z4 z5 z6
    go_loopw [26] (fun vi wr=>∃ k:Nat,k≤x.cx.length∧vi= .int .i64 k∧(Below w.heap.size w wr∧BxNd wr w.heap.size x (.slice ac x.cx.length cc) (.slice ae x.ed.length ce)∧BxL wr (w.heap.size+2) (.map (some (w.heap.size+1))))∧SmAt wr (w.heap.size+1) (ly+k) (.int .i64 0) (cM (N++(x.cx.take k).map (·.nm)))) (fun vi _=>x.cx.length - (intOf vi).toNat)
    case atStart=>exact ⟨0,Nat.zero_le _,rfl,HB.out,HSZ.out⟩
    case round=>
     clear HB HSZ;obtain ⟨k,hk,rfl,hb,hsm⟩:=hrel;have HB:=aA hb;have HS:=aA hsm;clear hsm
     by_cases hlt:k<x.cx.length
     · have hki:(k:Int)<(x.cx.length:Int):=by omega
       obtain ⟨g,o,rfl,hy⟩:∃ g o,ac=some ⟨g,o,none⟩∧PnIn wr g (o+k*4) x.cx[k]:=by
        obtain ⟨ad',cap',e,_,hcs⟩:=HPC.out wr hb.1;cases e
        rcases hcs with h|⟨g,o,ha,_,hs⟩
        · rw [h] at hlt;simp at hlt
        · exact ⟨g,o,ha,hs k hlt⟩
       have hnm:=HSC.out _ (List.getElem_mem hlt)
       have HTK:Hid (N++(x.cx.take (k+1)).map (·.nm)=N++(x.cx.take k).map (·.nm)++[x.cx[k].nm]):=by
        unfold Hid;rw [List.take_succ_eq_append_getElem hlt,List.map_append,List.append_assoc];rfl
       have hcn:dE (N++(x.cx.take k).map (·.nm)) x.cx[k].nm≤200000000:=Nat.le_trans (sO _ _) (by rw [List.length_append,List.length_map,List.length_take,HLN.out];omega);generalize x.cx[k]=y at*;obtain ⟨⟨y0,y1,y2,y3⟩,_⟩:=hy;generalize N++(x.cx.take k).map (·.nm)=l at*
       have HK1:Hid ((Below w.heap.size w (wr.alloc (.cells #[.string y.nm,.int .i64 y.a,.int .i64 y.b,.int .i64 y.c] 80))∧BxNd (wr.alloc (.cells #[.string y.nm,.int .i64 y.a,.int .i64 y.b,.int .i64 y.c] 80)) w.heap.size x (.slice (some ⟨g,o,none⟩) x.cx.length cc) (.slice ae x.ed.length ce)∧BxL (wr.alloc (.cells #[.string y.nm,.int .i64 y.a,.int .i64 y.b,.int .i64 y.c] 80)) (w.heap.size+2) (.map (some (w.heap.size+1))))∧SmAt (wr.alloc (.cells #[.string y.nm,.int .i64 y.a,.int .i64 y.b,.int .i64 y.c] 80)) (w.heap.size+1) (ly+k) (.int .i64 0) (cM l)):=⟨⟨aB hb.1 (aD _ _),aZ _ _ _ _ _ _ hb.2.1 (aD _ _),iJ _ _ _ _ hb.2.2 (aD _ _)⟩,HS.out.below (aD _ _)⟩;have hl:=HK1.out.2.look1 Tryz.underlying210 (dY _) (s:=y.nm) (by unfold maxLen;omega);rw [xU] at hl
       obtain ⟨w2,hrun,hs2,hg2⟩:=HK1.out.2.put Tryz.underlying210 (by unfold maxLen;omega) (s:=y.nm) (by unfold maxLen;omega) (.int .i64 ((dE l y.nm:Nat)+1:Int))
       have HS2:Hid (SmAt w2 (w.heap.size+1) (ly+(k+1)) (.int .i64 0) (cM (N++(x.cx.take (k+1)).map (·.nm)))):=by
        rw [HTK.out];exact hs2.ext fun u=>GX l y.nm u
       have HK2:Hid ((Below w.heap.size w w2∧BxNd w2 w.heap.size x (.slice (some ⟨g,o,none⟩) x.cx.length cc) (.slice ae x.ed.length ce)∧BxL w2 (w.heap.size+2) (.map (some (w.heap.size+1))))):=⟨HK1.out.1.1.grown hg2 HK1.out.1.1.size (fun j hj=>by cases hj;omega),HK1.out.1.2.1.grown hg2 (fun e=>by have:=Option.some.inj e;omega),HK1.out.1.2.2.grown hg2 (fun e=>by have:=Option.some.inj e;omega)⟩;obtain ⟨⟨_,_,n0,n1⟩,_⟩:=HK1.out;generalize dE l y.nm=c at*;clear hs2 hg2 hb HTK
       go_wp2_with fail
       exact ⟨⟨k+1,by omega,by go_num,HK2.out,HS2.out⟩,by simp [intOf];omega⟩
     · obtain rfl:k=x.cx.length:=by omega
       have hki:¬ ((x.cx.length:Int)<(x.cx.length:Int)):=by omega
       have HSF:Hid (SmAt wr (w.heap.size+1) (ly+x.cx.length) (.int .i64 0) (cM (N++x.cx.map (·.nm)))):=by
        have e:=HS.out;rw [List.take_length] at e;exact e
       obtain ⟨⟨z0,z1,z2,z3,z4,z5⟩,z6⟩:=hb.2.1;have HCF:=aA (HAL.out wr (w.heap.size+2) (w.heap.size+1) (ly+x.cx.length) (N++x.cx.map (·.nm)) hb.1 hb.2.2 HSF.out);clear hb HS HSF;obtain ⟨b,hbq⟩:∃ b,b=x.ed.any (fun e=>decide (dE (N++x.cx.map (·.nm)) e.lb=0)):=⟨_,rfl⟩;rw [←hbq] at HCF;have HBQ:=aA hbq;clear hbq;cases b
       all_goals go_wp2_with (go_at_call 167;refine HCF.out.mono ?_;rintro e w1 ⟨rfl,ok⟩)
       all_goals go_ret
       all_goals exact ⟨aC (by unfold LD;rw [HNE.out,←HBQ.out];rfl),aB HB.out.1 ok⟩
def iU:List Pn→ByteArray→Option Pn
 |[],_=>none
 |q::r,s=>match iU r s with
  |some p=>some p
  |none=>if s=q.nm then some q else none
theorem oL:∀ (l:List Pn) (q:Pn) (s:ByteArray),iU (l++[q]) s=if s=q.nm then some q else iU l s
 |[],q,s=>by
  by_cases h:s=q.nm<;>simp [iU,h]
 |p::r,q,s=>by
  rw [List.cons_append,iU,iU,oL r q s]
  by_cases h:s=q.nm
  · simp [h]
  · simp [h]
def OE (q:Pn):Value:= .agg #[.int .i64 q.a,.int .i64 q.b,.int .i64 q.c]
def tM (l:List Pn) (s:ByteArray):Option Value:=(iU l s).map OE
theorem NG (l:List Pn) (q:Pn) (u:ByteArray):(if u=q.nm then some (Value.agg #[.int .i64 q.a,.int .i64 q.b,.int .i64 q.c]) else tM l u)=tM (l++[q]) u:=by
 unfold tM;rw [oL]
 by_cases h:u=q.nm
 · rw [if_pos h,if_pos h];rfl
 · rw [if_neg h,if_neg h]
theorem NH (w:World):(zeroValue 31).run Tryz.prog w= .ok (.agg #[.int .i64 0,.int .i64 0,.int .i64 0]) w:=by kernel_rfl
def hJ (L:List Pn) (p:Wt×List Sp):Bool:=match iU L p.1.nm with
 |none=> !(decide (p.1.kd=1))
 |some q=>inL p.2 q.a q.b q.c
def vJ (L:List Pn) (ps:List (Wt×List Sp)):Bool:=ps.all (hJ L)
set_option maxHeartbeats 6400000 in
theorem xV {L:List Pn} {ps:List (Wt×List Sp)} {v vl:Value} {w:World} {B:Nat} (hl:PinsAt w vl L) (hw:OwnWt w B v ps) (hzl:L.length≤100000000) (hzw:ps.length≤100000000) (hsl:∀ q ∈ L,q.nm.size≤9223372036854775807) (hsw:∀ p ∈ ps,p.1.nm.size≤9223372036854775807):
 Calls Tryz.prog 115 #[v,vl] w fun e w'=>e= .returned (.bool (vJ L ps))∧Below w.heap.size w w':=by
 have hmm:= @run_makeMap Tryz.prog;have HPL:Hid (∀ W,Below w.heap.size w W→PinsAt W vl L):=fun W h=>hl.below h
 have HPW:Hid (∀ W,Below w.heap.size w W→WtsAt W v (ps.map (·.1))):=fun W h=>(zZ hw rfl).below h
 have HIN:Hid (∀ W p,p ∈ ps→Below w.heap.size w W→∀ a b c:Int,Calls Tryz.prog 51 #[.slice p.1.ad p.1.ln p.1.cp,.agg #[.int .i64 a,.int .i64 b,.int .i64 c]] W fun e w'=>e= .returned (.bool (inL p.2 a b c))∧Below W.heap.size W w'):=fun W p hp h a b c=>yN ((hw.2.1 p hp).below h).at.1.1 _ _ _
 have HSL:=aA hsl;have HSW:=aA hsw;obtain ⟨al,cl,rfl⟩:=hl.sl;obtain ⟨av,cv,rfl⟩:=hw.len;have HB0:Hid (Below w.heap.size w (w.alloc (.map #[] 0))∧SmAt (w.alloc (.map #[] 0)) w.heap.size 0 (.agg #[.int .i64 0,.int .i64 0,.int .i64 0]) (tM (L.take 0))):=⟨aD _ _,(SmAt.new w _).ext fun s=>rfl⟩;clear hl hw hsl hsw
 go_enter Tryz.func115,Tryz.ntmps115
 go_wp2_with fail
 go_loopw [15] (fun vi wr=>∃ k:Nat,k≤L.length∧vi= .int .i64 k∧Below w.heap.size w wr∧SmAt wr w.heap.size k (.agg #[.int .i64 0,.int .i64 0,.int .i64 0]) (tM (L.take k))) (fun vi _=>L.length - (intOf vi).toNat)
 case atStart=>exact ⟨0,Nat.zero_le _,rfl,HB0.out⟩
 case round=>
  clear HB0;obtain ⟨k,hk,rfl,hb,hsm⟩:=hrel;have HB:=aA hb;have HS:=aA hsm;clear hsm
  by_cases hlt:k<L.length
  · have hki:(k:Int)<(L.length:Int):=by omega
    obtain ⟨g,o,rfl,hy⟩:∃ g o,al=some ⟨g,o,none⟩∧PnIn wr g (o+k*4) L[k]:=by
     obtain ⟨ad',cap',e,_,hcs⟩:=HPL.out wr hb;cases e
     rcases hcs with h|⟨g,o,ha,_,hs⟩
     · rw [h] at hlt;simp at hlt
     · exact ⟨g,o,ha,hs k hlt⟩
    have hnm:=HSL.out _ (List.getElem_mem hlt);have HTK:Hid (L.take (k+1)=L.take k++[L[k]]):=List.take_succ_eq_append_getElem hlt;generalize L[k]=q at*;obtain ⟨⟨y0,y1,y2,y3⟩,_⟩:=hy;generalize L.take k=l at*;have HK1:Hid (Below w.heap.size w (wr.alloc (.cells #[.string q.nm,.int .i64 q.a,.int .i64 q.b,.int .i64 q.c] 80))∧SmAt (wr.alloc (.cells #[.string q.nm,.int .i64 q.a,.int .i64 q.b,.int .i64 q.c] 80)) w.heap.size k (.agg #[.int .i64 0,.int .i64 0,.int .i64 0]) (tM l)):=⟨aB hb (aD _ _),HS.out.below (aD _ _)⟩;obtain ⟨w2,hrun,hs2,hg2⟩:=HK1.out.2.put Tryz.underlying213 (by unfold maxLen;omega) (s:=q.nm) (by unfold maxLen;omega) (.agg #[.int .i64 q.a,.int .i64 q.b,.int .i64 q.c])
    have HS2:Hid (SmAt w2 w.heap.size (k+1) (.agg #[.int .i64 0,.int .i64 0,.int .i64 0]) (tM (L.take (k+1)))):=by
     rw [HTK.out];exact hs2.ext fun u=>NG l q u
    have HK2:Hid (Below w.heap.size w w2):=HK1.out.1.grown hg2 HK1.out.1.size (fun j hj=>by cases hj;exact Nat.le_refl _);clear hs2 hg2 hb HTK
    go_wp2_with fail
    exact ⟨⟨k+1,by omega,by go_num,HK2.out,HS2.out⟩,by simp [intOf];omega⟩
  · obtain rfl:k=L.length:=by omega
    have HSZ:Hid (SmAt wr w.heap.size L.length (.agg #[.int .i64 0,.int .i64 0,.int .i64 0]) (tM L)):=by
     have e:=HS.out;rw [List.take_length] at e;exact e
    have hki:¬ ((L.length:Int)<(L.length:Int)):=by omega
    clear hb HS
    go_wp2_with fail
    go_loopw [27] (fun vi wq=>∃ k:Nat,k≤ps.length∧vi= .int .i64 k∧(Below w.heap.size w wq∧SmAt wq w.heap.size L.length (.agg #[.int .i64 0,.int .i64 0,.int .i64 0]) (tM L))∧∀ j (_:j<k) (h1:j<ps.length),hJ L ps[j]=true) (fun vi _=>ps.length - (intOf vi).toNat)
    case atStart=>exact ⟨0,Nat.zero_le _,rfl,⟨HB.out,HSZ.out⟩,fun j h=>by omega⟩
    case round=>
     clear HB HSZ;obtain ⟨k,hk,rfl,hb,hall⟩:=hrel;have HB:=aA hb;have HALL:=aA hall;clear hall
     by_cases hlt:k<ps.length
     · have hki:(k:Int)<(ps.length:Int):=by omega
       obtain ⟨g,rfl,hy⟩:∃ g,av=some ⟨g,0,none⟩∧WtIn wr g (k*3) ps[k].1:=by
        obtain ⟨ad',cap',e,hcs⟩:=HPW.out wr hb.1;injection e with e1 _ _
        rcases hcs with h|⟨g,ha,_,hs⟩
        · have e:=congrArg List.length h
          rw [List.length_map] at e;rw [e] at hlt;simp at hlt
        · have q:=hs k (by rw [List.length_map];exact hlt)
          rw [List.getElem_map] at q;exact ⟨g,e1.trans ha,q⟩
       have hnm:=HSW.out _ (List.getElem_mem hlt);have HIY:=aA (fun W=>HIN.out W _ (List.getElem_mem hlt))
       have HST:Hid (hJ L ps[k]=true→∀ j (_:j<k+1) (h1:j<ps.length),hJ L ps[j]=true):=fun h j hj h1=>by
        rcases Nat.lt_or_ge j k with hjk|hjk
        · exact HALL.out j hjk h1
        · obtain rfl:j=k:=by omega
          exact h
       have HNO:Hid (hJ L ps[k]=false→vJ L ps=false):=fun h=>by
        unfold vJ;exact Bool.eq_false_iff.2 fun q=>by rw [List.all_eq_true.1 q _ (List.getElem_mem hlt)] at h;cases h
       clear HALL;obtain ⟨p,hp⟩:∃ p,p=ps[k]:=⟨_,rfl⟩;rw [←hp] at hy hnm HIY HST HNO;clear hp;obtain ⟨⟨nm,kd,wa,ln,cp,tg⟩,R⟩:=p
       simp only at hy hnm HIY
       obtain ⟨⟨y0,y1,y2⟩,_⟩:=hy;have HK1:Hid (Below w.heap.size w (wr.alloc (.cells #[.string nm,.int .i64 kd,.slice wa ln cp] 161))∧SmAt (wr.alloc (.cells #[.string nm,.int .i64 kd,.slice wa ln cp] 161)) w.heap.size L.length (.agg #[.int .i64 0,.int .i64 0,.int .i64 0]) (tM L)):=⟨aB hb.1 (aD _ _),hb.2.below (aD _ _)⟩;have hl:=HK1.out.2.look2 Tryz.underlying213 (NH _) (s:=nm) (by unfold maxLen;omega);unfold tM at hl;clear hb;cases hf:iU L nm with
       |none=>
        rw [hf] at hl;simp only [Option.map,Option.isSome,Option.getD] at hl;have HK2:Hid (Below w.heap.size w ((wr.alloc (.cells #[.string nm,.int .i64 kd,.slice wa ln cp] 161)).alloc (.cells #[.int .i64 0,.int .i64 0,.int .i64 0] 31))∧SmAt ((wr.alloc (.cells #[.string nm,.int .i64 kd,.slice wa ln cp] 161)).alloc (.cells #[.int .i64 0,.int .i64 0,.int .i64 0] 31)) w.heap.size L.length (.agg #[.int .i64 0,.int .i64 0,.int .i64 0]) (tM L)):=⟨aB HK1.out.1 (aD _ _),HK1.out.2.below (aD _ _)⟩
        by_cases hkd:kd=1
        · have HR:Hid (vJ L ps=false):=HNO.out (by unfold hJ;simp only [hf];rw [decide_eq_true hkd];rfl)
          subst hkd;clear HST HNO HIY
          go_wp2_with fail
          go_ret;exact ⟨aC HR.out.symm,HK2.out.1⟩
        · have HR:=aA (HST.out (by unfold hJ;simp only [hf];rw [decide_eq_false hkd];rfl))
          have hd:(kd==1)=false:=by simp;exact hkd
          clear HST HNO HIY
          go_wp2_with fail
          exact ⟨⟨k+1,by omega,by go_num,HK2.out,HR.out⟩,by simp [intOf];omega⟩
       |some q=>
        rw [hf] at hl;simp only [Option.map,Option.isSome,Option.getD,OE] at hl;have HK2:Hid (Below w.heap.size w ((wr.alloc (.cells #[.string nm,.int .i64 kd,.slice wa ln cp] 161)).alloc (.cells #[.int .i64 q.a,.int .i64 q.b,.int .i64 q.c] 31))∧SmAt ((wr.alloc (.cells #[.string nm,.int .i64 kd,.slice wa ln cp] 161)).alloc (.cells #[.int .i64 q.a,.int .i64 q.b,.int .i64 q.c] 31)) w.heap.size L.length (.agg #[.int .i64 0,.int .i64 0,.int .i64 0]) (tM L)):=⟨aB HK1.out.1 (aD _ _),HK1.out.2.below (aD _ _)⟩;have HIQ:=aA (HIY.out _ HK2.out.1 q.a q.b q.c);cases hin:inL R q.a q.b q.c with
        |true=>
         have HR:=aA (HST.out (by unfold hJ;simp only [hf];exact hin));rw [hin] at HIQ;clear HST HNO HIY hin hf
         go_wp2_with (go_at_call 51;refine HIQ.out.mono ?_;rintro e w3 ⟨rfl,ok⟩;have HK3:Hid (Below w.heap.size w w3∧SmAt w3 w.heap.size L.length (.agg #[.int .i64 0,.int .i64 0,.int .i64 0]) (tM L)):=⟨aB HK2.out.1 ok,HK2.out.2.below ok⟩;clear ok)
         exact ⟨⟨k+1,by omega,by go_num,HK3.out,HR.out⟩,by simp [intOf];omega⟩
        |false=>
         have HR:=aA (HNO.out (by unfold hJ;simp only [hf];exact hin));rw [hin] at HIQ;clear HST HNO HIY hin hf
         go_wp2_with (go_at_call 51;refine HIQ.out.mono ?_;rintro e w3 ⟨rfl,ok⟩;have HK3:Hid (Below w.heap.size w w3):=aB HK2.out.1 ok;clear ok)
         go_ret;exact ⟨aC HR.out.symm,HK3.out⟩
     · obtain rfl:k=ps.length:=by omega
       have hki:¬ ((ps.length:Int)<(ps.length:Int)):=by omega
       have HR:Hid (vJ L ps=true):=by
        unfold Hid vJ;rw [List.all_eq_true];intro p hp;obtain ⟨i,hi,rfl⟩:=List.getElem_of_mem hp;exact HALL.out i hi hi
       clear hb HALL
       go_wp2
       go_ret;exact ⟨aC HR.out.symm,HB.out.1⟩
end Go.Proofs.YtpfemjlhklnfoaaGreatDoor
namespace Go.Proofs.YtpfemjlhklnfoaaGreatDoor
open Go.RowKit Go.Maps Go.WideMaps
set_option maxRecDepth 100000
def ToldP (E:List Pn) (q:Pn):Prop:=∃ r,E.find? (isN q.nm)=some r∧r.a=q.a∧r.b=q.b∧r.c=q.c
theorem ToldP.same {E:List Pn} {q r:Pn} (h:ToldP E q) (h':ToldP E r) (hn:q.nm=r.nm):q=r:=by
 obtain ⟨x,e1,a1,b1,c1⟩:=h;obtain ⟨y,e2,a2,b2,c2⟩:=h';rw [hn,e2] at e1;cases e1;cases q;cases r
 simp_all
theorem qT {O:List Dp} {E:List Pn} {d:Dp} {q:Pn} (h:fS O E d=some q):q.nm=d.nm∧ToldP E q:=by
 unfold fS at h;cases hf:E.find? (isN d.nm) with
 |none=>rw [hf] at h;cases h
 |some r=>
  rw [hf] at h;dsimp only at h
  split at h
  · cases h
    exact ⟨rfl,r,hf,rfl,rfl,rfl⟩
  · cases h
theorem DH {O:List Dp} {E E':List Pn} {d:Dp} {q:Pn} (h:fS O E d=some q) (ht:ToldP E' q):fS O E' d=some q:=by
 have hn:=(qT h).1;obtain ⟨x,e1,a1,b1,c1⟩:=ht;unfold fS at h ⊢;rw [hn] at e1;rw [e1];cases hf:E.find? (isN d.nm) with
 |none=>rw [hf] at h;cases h
 |some r=>
  rw [hf] at h;dsimp only at h ⊢
  split at h
  · rename_i hin
    cases h;dsimp only at a1 b1 c1;rw [a1,b1,c1,if_pos hin]
  · cases h
theorem qU {O:List Dp} {E:List Pn}:∀ {ds:List Dp} {ps:List Pn},eD O E ds=some ps→(∀ q ∈ ps,ToldP E q)
 |[],ps,h=>by
  cases h;exact fun q hq=>by cases hq
 |d::ds,ps,h=>by
  cases hb:fS O E d with
  |none=>rw [fT hb] at h;cases h
  |some p=>
   rw [fU hb] at h;obtain ⟨qs,h1,rfl⟩:=Option.map_eq_some_iff.1 h;intro q hq
   rcases List.mem_cons.1 hq with rfl|hq
   · exact (qT hb).2
   · exact qU h1 q hq
theorem qV {O:List Dp} {E E':List Pn}:∀ {ds:List Dp} {ps:List Pn},eD O E ds=some ps→(∀ q ∈ ps,ToldP E' q)→eD O E' ds=some ps
 |[],ps,h,_=>h
 |d::ds,ps,h,ht=>by
  cases hb:fS O E d with
  |none=>rw [fT hb] at h;cases h
  |some p=>
   rw [fU hb] at h;obtain ⟨qs,h1,rfl⟩:=Option.map_eq_some_iff.1 h;rw [fU (DH hb (ht p List.mem_cons_self)),qV h1 fun q hq=>ht q (List.mem_cons_of_mem _ hq)];rfl
theorem lP {L:List CV} {O:List Dp} {E:List Pn} {s:ByteArray} {a b c:Int} {ps:List Pn} (h:fA L O E s a b c=some ps):∀ q ∈ ps,ToldP E q:=by
 unfold fA at h;cases hc:bJ L s a b c with
 |none=>rw [hc] at h;cases h
 |some x=>rw [hc] at h;exact qU h
theorem DI {L:List CV} {O:List Dp} {E E':List Pn} {s:ByteArray} {a b c:Int} {ps:List Pn} (h:fA L O E s a b c=some ps) (ht:∀ q ∈ ps,ToldP E' q):fA L O E' s a b c=some ps:=by
 unfold fA at h ⊢;cases hc:bJ L s a b c with
 |none=>rw [hc] at h;cases h
 |some x=>rw [hc] at h;exact qV h ht
theorem lQ:∀ {ps out:List Pn} {q:Pn},q ∈ ps→cK (out++aK out ps) q.nm=true
 |[],_,_,h=>by cases h
 |p::ps,out,q,h=>by
  show cK (out++(if cK out p.nm=true then aK out ps else p::aK (out++[p]) ps)) q.nm=true
  by_cases hh:cK out p.nm=true
  · rw [if_pos hh]
    rcases List.mem_cons.1 h with rfl|h
    · rw [gF,hh,Bool.true_or]
    · exact lQ h
  · rw [if_neg hh]
    have e:out++p::aK (out++[p]) ps=(out++[p])++aK (out++[p]) ps:=by simp
    rw [e]
    rcases List.mem_cons.1 h with rfl|h
    · rw [gF,kZ.2 (by simp),Bool.true_or]
    · exact lQ h
theorem fZ {L:List CV} {O:List Dp} {E:List Pn} {f:Nat} {x:Pn} {rs od out:List Pn} (h:dG L O E (f+1) (x::rs) od=some out):∃ ps,fA L O E x.nm x.a x.b x.c=some ps∧dG L O E f (rs++aK od ps) (od++aK od ps)=some out:=by
 cases hb:fA L O E x.nm x.a x.b x.c with
 |none=>rw [qD hb] at h;cases h
 |some ps=>exact ⟨ps,rfl,by rw [←iF hb];exact h⟩
theorem lR {L:List CV} {O:List Dp} {E:List Pn}:∀ {f:Nat} {rs od out:List Pn},dG L O E f rs od=some out→∀ q ∈ od,q ∈ out
 |f,[],od,out,h,q,hq=>by
  rw [fC] at h;cases h;exact hq
 |0,_::_,od,out,h,q,hq=>by cases h
 |f+1,x::rs,od,out,h,q,hq=>by
  obtain ⟨ps,_,h2⟩:=fZ h;exact lR h2 q (List.mem_append_left _ hq)
theorem xW {L:List CV} {O:List Dp} {E:List Pn} {x:Pn} {od ps:List Pn} (ho:∀ q ∈ od,ToldP E q) (hb:fA L O E x.nm x.a x.b x.c=some ps):∀ q ∈ od++aK od ps,ToldP E q:=fun q hq=>by
 rcases List.mem_append.1 hq with hq|hq
 · exact ho q hq
 · exact lP hb q (fB hq)
theorem iK {L:List CV} {O:List Dp} {E:List Pn}:∀ {f:Nat} {rs od out:List Pn},dG L O E f rs od=some out→(∀ q ∈ od,ToldP E q)→∀ q ∈ out,ToldP E q
 |f,[],od,out,h,ho=>by
  rw [fC] at h;cases h;exact ho
 |0,_::_,od,out,h,_=>by cases h
 |f+1,x::rs,od,out,h,ho=>by
  obtain ⟨ps,h1,h2⟩:=fZ h;exact iK h2 (xW ho h1)
theorem vK {E:List Pn} {od ps out:List Pn} (ho:∀ q ∈ out,ToldP E q) (hp:∀ q ∈ ps,ToldP E q) (hm:∀ q ∈ od++aK od ps,q ∈ out):∀ q ∈ ps,q ∈ out:=fun q hq=>by
 obtain ⟨r,hr,hn⟩:=List.mem_map.1 (kZ.1 (lQ (out:=od) hq));have hr':=hm r hr;rw [(hp q hq).same (ho r hr') hn.symm];exact hr'
theorem iL {L:List CV} {O:List Dp} {E E':List Pn}:∀ {f:Nat} {rs od out:List Pn},dG L O E f rs od=some out→(∀ q ∈ out,ToldP E q)→(∀ q ∈ out,ToldP E' q)→dG L O E' f rs od=some out
 |f,[],od,out,h,_,_=>by
  rw [fC] at h ⊢;exact h
 |0,_::_,od,out,h,_,_=>by cases h
 |f+1,x::rs,od,out,h,ho,ht=>by
  obtain ⟨ps,h1,h2⟩:=fZ h;have hin:=vK ho (lP h1) (lR h2);rw [iF (DI h1 fun q hq=>ht q (hin q hq))];exact iL h2 ho ht
def sP (L:List CV) (O:List Dp) (E out:List Pn) (x:Pn):Prop:=∃ ps,fA L O E x.nm x.a x.b x.c=some ps∧∀ q ∈ ps,q ∈ out
theorem mB {L:List CV} {O:List Dp} {E:List Pn}:∀ {f:Nat} {rs od out:List Pn},dG L O E f rs od=some out→(∀ q ∈ out,ToldP E q)→(∀ x ∈ rs,sP L O E out x)∧∀ x ∈ out,x ∈ od∨sP L O E out x
 |f,[],od,out,h,_=>by
  rw [fC] at h;cases h;exact ⟨fun x hx=>(by cases hx),fun x hx=>Or.inl hx⟩
 |0,_::_,od,out,h,_=>by cases h
 |f+1,x::rs,od,out,h,ho=>by
  obtain ⟨ps,h1,h2⟩:=fZ h;have hin:=vK ho (lP h1) (lR h2);obtain ⟨k1,k2⟩:=mB h2 ho;refine ⟨fun y hy=> ?_,fun y hy=> ?_⟩
  · rcases List.mem_cons.1 hy with rfl|hy
    · exact ⟨ps,h1,hin⟩
    · exact k1 y (List.mem_append_left _ hy)
  · rcases k2 y hy with hy|hy
    · rcases List.mem_append.1 hy with hy|hy
      · exact Or.inl hy
      · exact Or.inr (k1 y (List.mem_append_right _ hy))
    · exact Or.inr hy
theorem qW {L:List CV} {O:List Dp} {E out:List Pn} (hc:∀ x ∈ out,sP L O E out x):∀ {f:Nat} {rs od:List Pn},(∀ x ∈ rs,x ∈ out)→(∀ x ∈ od,x ∈ out)→(od.map Pn.nm).Nodup→rs.length+(out.length - od.length)≤f→∃ part,dG L O E f rs od=some part∧∀ x ∈ part,x ∈ out
 |f,[],od,_,ho,_,_=>⟨od,fC _ _ _ _ _,ho⟩
 |0,x::rs,od,_,_,_,hf=>by simp at hf
 |f+1,x::rs,od,hr,ho,hn,hf=>by
  obtain ⟨ps,h1,h2⟩:=hc x (hr x List.mem_cons_self);rw [iF h1];have hin:∀ q ∈ aK od ps,q ∈ out:=fun q hq=>h2 q (fB hq)
  have ho':∀ q ∈ od++aK od ps,q ∈ out:=fun q hq=>by
   rcases List.mem_append.1 hq with hq|hq
   · exact ho q hq
   · exact hin q hq
  have hn':((od++aK od ps).map Pn.nm).Nodup:=dQ hn;refine qW hc (fun q hq=> ?_) ho' hn' ?_
  · rcases List.mem_append.1 hq with hq|hq
    · exact hr q (List.mem_cons_of_mem _ hq)
    · exact hin q hq
  · have hl:(od++aK od ps).length≤out.length:=by
     have e:=lA hn' (fun s hs=>(by obtain ⟨q,hq,rfl⟩:=List.mem_map.1 hs;exact List.mem_map_of_mem (f:=Pn.nm) (ho' q hq):s ∈ out.map Pn.nm));rw [List.length_map,List.length_map] at e;exact e
    simp only [List.length_append,List.length_cons] at hl hf ⊢;omega
theorem qX:∀ {ts:List Pn} {q:Pn} (_:(ts.map Pn.nm).Nodup) (more:List Pn),q ∈ ts→(ts++more).find? (isN q.nm)=some q
 |[],_,_,_,h=>by cases h
 |t::ts,q,hn,more,h=>by
  rw [List.map_cons,List.nodup_cons] at hn;rw [List.cons_append,List.find?_cons]
  rcases List.mem_cons.1 h with rfl|h
  · rw [show isN q.nm q=true from decide_eq_true rfl]
  · have hne:t.nm≠q.nm:=fun e=>hn.1 (e ▸ List.mem_map_of_mem h)
    rw [show isN q.nm t=false from decide_eq_false hne];exact qX hn.2 more h
theorem kP {w:World} {B:Nat} {v:Value} {ps:List Pn} (h:OwnPn w B v ps):PinsAt w v ps:=by
 rcases ps with _|⟨p,ps⟩
 · obtain ⟨ad,cap,rfl⟩:=bN h
   exact ⟨ad,cap,rfl,Nat.zero_le _,Or.inl rfl⟩
 · obtain ⟨g,cap,_,hg,rfl,hc,_⟩:=fV h 0 (by simp)
   refine ⟨_,cap,rfl,hc,Or.inr ⟨g,0,rfl,hg,fun i hi=> ?_⟩⟩;obtain ⟨g',cap',_,_,hv,_,hp⟩:=fV h i hi;injection hv with e1 e2 e3
   injection e1 with e1
   injection e1 with e1
   subst e1;rw [Nat.zero_add];exact hp
theorem GY {ts od:List Pn} (h1:ts.Perm od) (h2:ts.Pairwise fun x y=>ltP y x=false) (hn:(od.map Pn.nm).Nodup):zK ts:=by
 have hne:ts.Pairwise fun x y=>x.nm≠y.nm:=by
  have e:(ts.map Pn.nm).Nodup:=(h1.map Pn.nm).nodup_iff.2 hn;rw [List.nodup_iff_pairwise_ne,List.pairwise_map] at e;exact e
 exact (h2.and hne).imp fun {x y} q=>by
  refine lI ?_ (fun e=>q.2 e.symm);rw [jH];exact q.1
theorem oM {ts so od:List Pn} (h1:ts.Perm od) (h2:ts.Pairwise fun x y=>ltP y x=false) (hn:(od.map Pn.nm).Nodup) (h3:so.Perm od) (h4:so.Pairwise fun x y=>ltP y x=false):ts=so:=by
 exact uO h1 h2 hn h3 (GY h3 h4 hn)
theorem DJ (l:List Pn):(l.flatMap bD).length=l.length*4:=by
 induction l with
 |nil=>rfl
 |cons x l ih=>rw [List.flatMap_cons,List.length_append,ih,List.length_cons];show 4+_=_;omega
theorem GZ:∀ (l:List Pn) (j:Nat) (u:Value),(l.flatMap bD)[j]? =some u→∃ h:j / 4<l.length,(bD l[j / 4])[j % 4]? =some u
 |[],j,u,h=>by simp at h
 |x::l,j,u,h=>by
  rw [List.flatMap_cons] at h
  by_cases hj:j<4
  · rw [List.getElem?_append_left (by exact hj)] at h
    have e1:j / 4=0:=by omega
    have e2:j % 4=j:=by omega
    refine ⟨by rw [e1];simp,?_⟩;rw [e2];simp only [e1,List.getElem_cons_zero];exact h
  · rw [List.getElem?_append_right (by show 4≤j;omega)] at h
    obtain ⟨h1,h2⟩:=GZ l (j - 4) u h;have e1:j / 4=(j - 4) / 4+1:=by omega
    have e2:j % 4=(j - 4) % 4:=by omega
    refine ⟨by rw [e1];simpa using h1,?_⟩;rw [e2];simp only [e1,List.getElem_cons_succ];exact h2
theorem DK {w:World} {g o:Nat} {L:List Pn} (h:∀ i (h:i<L.length),PnIn w g (o+i*4) L[i]):∀ j u,(L.flatMap bD)[j]? =some u→w.cell? ((⟨g,o,none⟩:Addr).add j)=some u:=fun j u hj=>by
 obtain ⟨h1,h2⟩:=GZ L j u hj;have ad:(⟨g,o,none⟩:Addr).add j=⟨g,o+j,none⟩:=by unfold Addr.add;split<;>simp_all
 rw [ad];obtain ⟨⟨c0,c1,c2,c3⟩,_⟩:=h _ h1;have ej:o+j=o+j / 4*4+j % 4:=by omega
 rw [ej];have hr:j % 4<4:=Nat.mod_lt _ (by decide);generalize j % 4=r at*
 match r,hr with
 |0,_=>rw [←h2];exact c0
 |1,_=>rw [←h2];exact c1
 |2,_=>rw [←h2];exact c2
 |3,_=>rw [←h2];exact c3
theorem oN {B:Nat} {wx:World} {slt:TypeId} {v x:Value} {ps qs:List Pn} {ops:Array Oper} {rest:List Oper} {o:Oper} {f:Act} {Q:Exit→Act→World→Prop}
 (hund:Tryz.prog.underlying slt=some (.slice 80))
 (hgd:o.guard=none) (s t:Operand) (ho:o.op= .call { callee:= .builtin .append,args:= #[s,t],argTypes:= #[slt,slt] }) (hs:f.eval s=v)
 (hown:OwnPn wx B v ps) (hB:B≤wx.heap.size) (hx:f.eval t=x) (hxo:PinsAt wx x qs) (hlen:ps.length+qs.length≤1000000000)
 (h:∀ v1 w1,OwnPn w1 B v1 (ps++qs)→wx.grownBy w1 v.ownBlock→(v1.ownBlock=v.ownBlock∨v1.ownBlock=some wx.heap.size)→wpList Tryz.prog ops Q rest (f.put o.dst v1) w1):
 wpList Tryz.prog ops Q (o::rest) f wx:=by
 obtain ⟨ad,c2,rfl,hc2,hq⟩:=hxo
 rcases ad with _|a
 · obtain rfl:qs=[]:=by
    rcases hq with e|⟨_,_,e,_⟩
    · exact e
    · cases e
   obtain ⟨i0,hi,_⟩:=Sc.cO gV;have h1:=h v wx (by rw [List.append_nil];exact hown) ⟨rfl,rfl,rfl,Nat.le_refl _,fun _ _ _=>rfl⟩ (Or.inl rfl);refine wpList_plain hgd fun K hK=> ?_
   obtain ⟨base,cap,hv,hnc⟩:∃ base cap,v= .slice base ps.length cap∧ps.length≤cap:=by
    rcases hown.2 with ⟨rfl,h0⟩|⟨g,cap,cur,rfl,_,_,hc,_⟩
    · exact ⟨none,0,by rw [h0],by omega⟩
    · exact ⟨_,cap,rfl,hc⟩
   subst hv
   have hr:(Builtin.append_ #[slt,slt] o.type #[.slice base ps.length cap,.slice none 0 c2]).run Tryz.prog wx= .ok (.slice base ps.length cap) wx:=by
    cases base<;>simp [Builtin.append_,run_underlying hund,sizeOf,typeInfo,hi,Builtin.lenOf,hnc,Builtin.firstCells,loadCells,storeCells]
   unfold Oper.wp execOp;simp only [ho,resolve,invoke,builtin,Sem.run_bind,Sem.run_pure,Result.andThen_ok,List.map_toArray,List.map_cons,List.map_nil,hs,hx,List.length_nil,hr];exact hK _ _ h1
 · refine cH gV hund rfl (by decide) (by decide) hgd s t ho hs hown hB hx (DJ qs) ?_ (qE qs) hlen ?_
   · rcases hq with rfl|⟨g,off,e,_,hp⟩
     · intro j u hj
       cases hj
     · cases e
       exact DK hp
   · intro v1 w1 h1 h2 h3
     refine h v1 w1 ?_ h2 h3;unfold OwnPn;rw [List.length_append,List.flatMap_append];exact h1
end Go.Proofs.YtpfemjlhklnfoaaGreatDoor
namespace Go.Proofs.YtpfemjlhklnfoaaGreatDoor
open Go.RowKit
set_option maxRecDepth 100000
theorem OwnPn.lenT {w:World} {B:Nat} {v:Value} {l:List Pn} (h:OwnPn w B v l):∃ ad cap,v= .slice ad l.length cap:=bN h
theorem DL (w:World) (cs:Array Value) (cap:Nat) (hc:cap≤maxLen) (hs:cs.size=cap*4):(w.drew.alloc (.cells cs 80)).ownsRow w.heap.size 80 4 (.slice (some ⟨w.heap.size,0,none⟩) 0 cap) 0 []:=
 ⟨rfl,Or.inr ⟨w.heap.size,cap,cs,rfl,Nat.le_refl _,by show (w.drew.heap.push _)[w.drew.heap.size]? =_;rw [Array.getElem?_push,if_pos rfl],Nat.zero_le _,hc,hs,by simp⟩⟩
theorem DM (n:Nat) (hn:n≤1000000000) (w:World):Calls Tryz.prog 219 #[.slice none 0 0,.int .i64 n] w fun e w'=>∃ v,e= .returned v∧OwnPn w' w.heap.size v []∧Below w.heap.size w w':=by
 by_cases h0:n=0
 · subst h0
   refine (Any8.slices_Grow_room Tryz.growP none 0 0 0 w (Nat.le_refl _) (by omega) (by omega) (Nat.le_refl _)).mono ?_;rintro e w' ⟨rfl,rfl⟩;exact ⟨_,rfl,OwnPn.nil _ _,Below.refl _ _⟩
 · obtain ⟨i0,hi,hz0,hz1,hz2⟩:=Sc.cO gV
   refine (Any8.slices_Grow_grow Tryz.growP i0 _ hi hz0 (by rw [hz1];decide) none 0 0 n [] w (Nat.le_refl _) (by omega) (by rw [hz2];omega) (by omega) (by simp) (fun _=>rfl) (fun a ha=>by cases ha)).mono ?_;rintro e w' ⟨rfl,rfl⟩;have hge:=grownCap_ge w (0+n) 0 80;refine ⟨_,rfl,DL w _ _ (grownCap_le_maxLen _ _ _ _ (by unfold maxLen;omega)) ?_,(Below.refl _ _).drew.alloc (Nat.le_refl _) _⟩;rw [Array.size_append,Array.size_append,size_zeroCells,size_zeroCells];show 0+(0+n - 0)*4+(grownCap w (0+n) 0 80 - (0+n))*4=grownCap w (0+n) 0 80*4;omega
set_option maxHeartbeats 3200000 in
theorem vL {w:World} {g:Nat} {v1 v2:Value} {xs ys:List Pn} (h1:PinsAt w v1 xs) (h2:PinsAt w v2 ys) (c0:w.cell? ⟨g,0,none⟩=some v1) (c1:w.cell? ⟨g,1,none⟩=some v2) (hx:xs.length≤100000000) (hy:ys.length≤100000000):Calls Tryz.prog 172 #[.slice (some ⟨g,0,none⟩) 2 2] w fun e w'=>∃ v,e= .returned v∧OwnPn w' w.heap.size v (xs++ys)∧Below w.heap.size w w':=by
 have hgl:g<w.heap.size:=World.block_lt_of_cell? w ⟨g,0,none⟩ c0;have HX:=aA h1;have HY:=aA h2;obtain ⟨a1,k1,rfl⟩:=h1.sl;obtain ⟨a2,k2,rfl⟩:=h2.sl
 have HGR:Hid (Calls Tryz.prog 219 #[.slice none 0 0,.int .i64 ((xs.length:Int)+(ys.length:Int))] w fun e w'=>∃ v,e= .returned v∧OwnPn w' w.heap.size v []∧Below w.heap.size w w'):=by
  have e:=DM (xs.length+ys.length) (by omega) w;rw [Int.natCast_add] at e;exact e
 obtain ⟨n1,hn1⟩:∃ n,n=xs.length:=⟨_,rfl⟩;obtain ⟨n2,hn2⟩:∃ n,n=ys.length:=⟨_,rfl⟩;have HN1:=aA hn1;have HN2:=aA hn2;rw [←hn1] at hx c0 HGR;rw [←hn2] at hy c1 HGR;clear h1 h2 hn1 hn2;have q1:¬ (n1:Int)<0:=by omega
 have q2:¬ ((n1:Int)+(n2:Int))<0:=by omega
 go_enter Tryz.func172,Tryz.ntmps172
 go_wp2_with fail
 go_loopw [3,11] (fun vs vi wr=>wr=w∧((vi= .int .i64 0∧vs= .int .i64 0)∨(vi= .int .i64 1∧vs= .int .i64 n1)∨(vi= .int .i64 2∧vs= .int .i64 (n1+n2:Int)))) (fun _ vi _=>2 - (intOf vi).toNat)
 case atStart=>exact ⟨rfl,Or.inl ⟨rfl,rfl⟩⟩
 case round=>
  obtain ⟨hww,⟨rfl,rfl⟩|⟨rfl,rfl⟩|⟨rfl,rfl⟩⟩:=hrel
  · obtain rfl:w=wr:=hww.symm
    go_wp2_with fail
    exact ⟨by simp,by decide⟩
  · obtain rfl:w=wr:=hww.symm
    go_wp2_with fail
    exact ⟨by simp,by decide⟩
  · obtain rfl:w=wr:=hww.symm
    go_wp2_with (go_at_call 219;refine HGR.out.mono ?_;rintro e w2 ⟨vr,rfl,hov,hb⟩;have HV0:=aA hov;have HB0:=aA hb;obtain ⟨ar0,cr0,rfl⟩:=hov.lenT;clear hov hb HGR)
    go_loopw [6,27] (fun vr vi wr=>((vi= .int .i64 0∧OwnPn wr w.heap.size vr [])∨(vi= .int .i64 1∧OwnPn wr w.heap.size vr xs)∨(vi= .int .i64 2∧OwnPn wr w.heap.size vr (xs++ys)))∧Below w.heap.size w wr) (fun _ vi _=>2 - (intOf vi).toNat)
    case atStart=>exact ⟨Or.inl ⟨rfl,HV0.out⟩,HB0.out⟩
    case round=>
     obtain ⟨⟨rfl,hov⟩|⟨rfl,hov⟩|⟨rfl,hov⟩,hb⟩:=hrel
     · have HB:=aA hb
       have HR:Hid (OwnPn wr w.heap.size _ []):=hov;obtain ⟨ar,cr,rfl⟩:=hov.lenT;have d0:=(HB.out.cell (p:=⟨g,0,none⟩) hgl).trans c0
       have HS:Hid (PinsAt wr (.slice a1 n1 k1) xs):=by
        have e:=HX.out.below HB.out;rw [←HN1.out] at e;exact e
       have hxl:xs.length≤100000000:=HN1.out ▸ hx;clear hov hb
       go_wp2_with (at_builtin;refine oN (B:=w.heap.size) (wx:=wr) (x:= .slice a1 n1 k1) Tryz.underlying40 rfl (.tmp 31) (.tmp 32) rfl rfl HR.out HB.out.size rfl HS.out (by first|omega|(simp;omega)) ?_;intro u1 w4 ho hgr hat;have HO4:Hid (OwnPn w4 w.heap.size u1 xs):=ho;obtain ⟨g7,cap7,hu⟩:=HO4.out.lenT;subst hu;have HB4:Hid (Below w.heap.size w w4):=HB.out.grown hgr HB.out.size (fun k hk=>(World.ownsRow.lt HR.out k hk).1);clear ho hgr hat)
       exact ⟨⟨Or.inr (Or.inl ⟨rfl,HO4.out⟩),HB4.out⟩,by decide⟩
     · have HB:=aA hb
       obtain ⟨ar,cr,rfl⟩:=hov.lenT;have HR:Hid (OwnPn wr w.heap.size (.slice ar xs.length cr) xs):=hov;have d1:=(HB.out.cell (p:=⟨g,1,none⟩) hgl).trans c1
       have HS:Hid (PinsAt wr (.slice a2 n2 k2) ys):=by
        have e:=HY.out.below HB.out;rw [←HN2.out] at e;exact e
       have hyl:ys.length≤100000000:=HN2.out ▸ hy;have hxl:xs.length≤100000000:=HN1.out ▸ hx;clear hov hb
       go_wp2_with (at_builtin;refine oN (B:=w.heap.size) (wx:=wr) (x:= .slice a2 n2 k2) Tryz.underlying40 rfl (.tmp 31) (.tmp 32) rfl rfl HR.out HB.out.size rfl HS.out (by first|omega|(simp;omega)) ?_;intro u1 w4 ho hgr hat;have HO4:Hid (OwnPn w4 w.heap.size u1 (xs++ys)):=ho;obtain ⟨g7,cap7,hu⟩:=HO4.out.lenT;subst hu;have HB4:Hid (Below w.heap.size w w4):=HB.out.grown hgr HB.out.size (fun k hk=>(World.ownsRow.lt HR.out k hk).1);clear ho hgr hat)
       exact ⟨⟨Or.inr (Or.inr ⟨rfl,by have e:=HO4.out;rw [List.length_append] at e;exact e⟩),HB4.out⟩,by decide⟩
     · have HB:=aA hb
       have HR:=aA hov;obtain ⟨ar,cr,rfl⟩:=hov.lenT;clear hov hb
       go_wp2
       go_ret;exact ⟨_,rfl,HR.out,HB.out⟩
end Go.Proofs.YtpfemjlhklnfoaaGreatDoor
