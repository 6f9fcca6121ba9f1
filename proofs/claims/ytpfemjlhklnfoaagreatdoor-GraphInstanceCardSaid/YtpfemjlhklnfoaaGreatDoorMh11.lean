/- Wa5, Pn1: their declarations that are needed, laid in one text, remarks and blanks left out. -/
import Derived.Test.YtpfemjlhklnfoaaGreatDoorMh10
namespace Go.Proofs.YtpfemjlhklnfoaaGreatDoor
open Go.RowKit Go.Maps Go.WideMaps
set_option maxRecDepth 100000
theorem uD (l:List Pn) (i:Nat) (h:i<l.length):(l.flatMap bD)[i*4]? =some (.string l[i].nm)∧(l.flatMap bD)[i*4+1]? =some (.int .i64 l[i].a)∧(l.flatMap bD)[i*4+2]? =some (.int .i64 l[i].b)∧(l.flatMap bD)[i*4+3]? =some (.int .i64 l[i].c):=by
 haveI:Inhabited Pn:=⟨l[i]⟩
 have h0:=bK bD 4 (fun _=>rfl) l i 0 h (by decide);have h1:=bK bD 4 (fun _=>rfl) l i 1 h (by decide);have h2:=bK bD 4 (fun _=>rfl) l i 2 h (by decide);have h3:=bK bD 4 (fun _=>rfl) l i 3 h (by decide);rw [getElem!_pos l i h] at h0 h1 h2 h3;exact ⟨h0,h1,h2,h3⟩
theorem fV {w:World} {B:Nat} {v:Value} {ps:List Pn} (h:OwnPn w B v ps) (i:Nat) (hi:i<ps.length):∃ g cap,B≤g∧g<w.heap.size∧v= .slice (some ⟨g,0,none⟩) ps.length cap∧ps.length≤cap∧PnIn w g (i*4) ps[i]:=by
 obtain ⟨g,cap,h1,h2,h3,h4,q⟩:=kD h (by omega);obtain ⟨e0,e1,e2,e3⟩:=uD ps i hi;exact ⟨g,cap,h1,h2,h3,h4,⟨q _ _ e0,q _ _ e1,q _ _ e2,q _ _ e3⟩,h2⟩
def lB (cnt:ByteArray→Nat) (s:ByteArray):Option Value:=if cnt s=0 then none else some (.int .i64 (cnt s))
theorem uE (cnt:ByteArray→Nat) (s:ByteArray):(lB cnt s).getD (.int .i64 0)= .int .i64 (cnt s):=by
 unfold lB
 by_cases h:cnt s=0
 · rw [if_pos h,h];rfl
 · rw [if_neg h];rfl
theorem uF (cnt:ByteArray→Nat) (s u:ByteArray):(if u=s then some (.int .i64 ((cnt s:Int)+1)) else lB cnt u)=lB (fun t=>if t=s then cnt s+1 else cnt t) u:=by
 unfold lB
 by_cases h:u=s
 · subst h
   simp
 · simp [h]
def kE (L:List CV) (O:List Dp) (E:List Pn) (p:Pn):Option (List Pn):=dG L O E 3000 [p] []
def BV (w:World) (L:List CV) (r:Option (List Pn)) (e:Ending) (w':World):Prop:=(r=none→e= .returned (.tuple #[.slice none 0 0,.bool false]))∧(∀ out,r=some out→∃ v ts,e= .returned (.tuple #[v,.bool true])∧(ts.Perm out∧(ts.Pairwise fun x y=>ltP y x=false)∧GoodC L out)∧OwnPn w' w.heap.size v ts)∧Below w.heap.size w w'
theorem uG {w:World} {B:Nat} {e:TypeId} {z:Nat} {v:Value} {n:Nat} {xs:List Value} {M:Nat} (h:w.ownsRow B e z v n xs) (hM:∃ es cl,w.heap[M]? =some (.map es cl)):some M≠v.ownBlock:=fun q=>by
 rcases h.2 with ⟨rfl,_⟩|⟨g,cap,cur,rfl,_,hgg,_⟩
 · cases q
 · have e:M=g:=Option.some.inj q
   subst e;obtain ⟨es,cl,hm⟩:=hM;rw [hm] at hgg;cases hgg
def Met (cnt:ByteArray→Nat) (out:List Pn) (m:Nat):Prop:=(∀ s,0<cnt s↔cK out s=true)∧∀ s,cnt s≤m
theorem Met.more {cnt:ByteArray→Nat} {out:List Pn} {m n:Nat} (h:Met cnt out m) (hm:m≤n):Met cnt out n:=⟨h.1,fun s=>Nat.le_trans (h.2 s) hm⟩
theorem Met.old {cnt:ByteArray→Nat} {out:List Pn} {m:Nat} (h:Met cnt out m) {s:ByteArray} (hs:cK out s=true):Met (fun t=>if t=s then cnt s+1 else cnt t) out (m+1):=by
 refine ⟨fun t=> ?_,fun t=> ?_⟩
 · by_cases e:t=s
   · subst e
     simp only [if_true];exact ⟨fun _=>hs,fun _=>Nat.succ_pos _⟩
   · simp only [if_neg e]
     exact h.1 t
 · by_cases e:t=s
   · simp only [if_pos e]
     have:=h.2 s
     omega
   · simp only [if_neg e]
     have:=h.2 t
     omega
theorem Met.fresh {cnt:ByteArray→Nat} {out:List Pn} {m:Nat} (h:Met cnt out m) (p:Pn):Met (fun t=>if t=p.nm then cnt p.nm+1 else cnt t) (out++[p]) (m+1):=by
 refine ⟨fun t=> ?_,fun t=> ?_⟩
 · rw [gF]
   by_cases e:t=p.nm
   · subst e
     simp [cK,isN]
   · have e2:cK [p] t=false:=by
      unfold cK isN;rw [List.any_cons,List.any_nil,Bool.or_false];exact decide_eq_false fun q=>e q.symm
     simp only [if_neg e,e2,Bool.or_false];exact h.1 t
 · by_cases e:t=p.nm
   · simp only [if_pos e]
     have:=h.2 p.nm
     omega
   · simp only [if_neg e]
     have:=h.2 t
     omega
set_option maxHeartbeats 25600000 in
theorem JW {w:World} {B C Q:Nat} {L:List CV} (hc:CatAt w B C Q L) (hL:L.length≤128) {O:List Dp} {x1 x2 x3:Option Addr} {y1 y2 y3 z1 z2 z3:Nat} {v4:Value} (ho:DepsAt w v4 O) (hol0:O.length≤9223372036854775807) (hon:∀ d ∈ O,d.nm.size≤9223372036854775807) {E:List Pn} {ve:Value} (he:PinsAt w ve E) (hel:E.length≤9223372036854775807) (hen:∀ q ∈ E,q.nm.size≤9223372036854775807) (hei:∀ q ∈ E,I64 q.a∧I64 q.b∧I64 q.c) (p:Pn) (hkp:bQ p.nm p.a p.b p.c):
 Calls Tryz.prog 173 #[.pointer (some ⟨C,0,none⟩),.agg #[.slice x1 y1 z1,.slice x2 y2 z2,.slice x3 y3 z3,v4],ve,.agg #[.string p.nm,.int .i64 p.a,.int .i64 p.b,.int .i64 p.c]] w (BV w L (kE L O E p)):=by
 have HFU0:Hid (∃ FU,FU=3000∧kE L O E p=dG L O E FU [p] []):=⟨3000,rfl,rfl⟩;obtain ⟨FU,hFU,hctx⟩:=HFU0.out;rw [hctx];have hfu:2999<FU:=by omega
 clear hFU hctx HFU0;have hmm:= @run_makeMap Tryz.prog;obtain ⟨ad,cap,rfl,hcap,_⟩:=ho.el;obtain ⟨ae,ce,rfl,_,_⟩:=he.el;have HSH:Hid (∀ x ∈ L,eI x.pg.p):=fun x hx=>lY (hc.2.2.1 x hx).1.2
 have HPL:Hid ((iS L).length≤2048):=BP hL fun x hx=>(HSH.out x hx).1
 have HEI:=aA hei;have HKP0:=aA hkp
 have HOV:Hid (Calls Tryz.prog 213 #[.agg #[.slice x1 y1 z1,.slice x2 y2 z2,.slice x3 y3 z3,.slice ad O.length cap]] ((w.alloc (.cells #[.slice x1 y1 z1,.slice x2 y2 z2,.slice x3 y3 z3,.slice ad O.length cap] 57)).alloc (.cells #[.string p.nm,.int .i64 p.a,.int .i64 p.b,.int .i64 p.c] 80)) fun e w'=>e= .returned (.agg #[.slice ad O.length cap,.map (some (w.heap.size+1+1+2))])∧(∃ n,SmAt w' (w.heap.size+1+1+2) n (.int .i64 0) (aJ O))∧Below ((w.alloc (.cells #[.slice x1 y1 z1,.slice x2 y2 z2,.slice x3 y3 z3,.slice ad O.length cap] 57)).alloc (.cells #[.string p.nm,.int .i64 p.a,.int .i64 p.b,.int .i64 p.c] 80)).heap.size ((w.alloc (.cells #[.slice x1 y1 z1,.slice x2 y2 z2,.slice x3 y3 z3,.slice ad O.length cap] 57)).alloc (.cells #[.string p.nm,.int .i64 p.a,.int .i64 p.b,.int .i64 p.c] 80)) w'):=by
  have e:=rX (x1:=x1) (x2:=x2) (x3:=x3) (y1:=y1) (y2:=y2) (y3:=y3) (z1:=z1) (z2:=z2) (z3:=z3) (ho.below (aR w (.cells #[.slice x1 y1 z1,.slice x2 y2 z2,.slice x3 y3 z3,.slice ad O.length cap] 57) (.cells #[.string p.nm,.int .i64 p.a,.int .i64 p.b,.int .i64 p.c] 80))) hol0 hon;have hs:((w.alloc (.cells #[.slice x1 y1 z1,.slice x2 y2 z2,.slice x3 y3 z3,.slice ad O.length cap] 57)).alloc (.cells #[.string p.nm,.int .i64 p.a,.int .i64 p.b,.int .i64 p.c] 80)).heap.size=w.heap.size+1+1:=by simp
  rw [hs] at e;unfold Hid;rw [hs];exact e
 have HFV:Hid (∀ w1,Below w.heap.size w w1→Calls Tryz.prog 220 #[.slice ae E.length ce] w1 fun e w'=>e= .returned (.map (some w1.heap.size))∧(∃ n,SmAt w' w1.heap.size n zV (bC E))∧Below w1.heap.size w1 w'):=fun w1 hb=>MT (he.below hb) hel hen
 have HB0:Hid (Below w.heap.size w ((w.alloc (.cells #[.slice x1 y1 z1,.slice x2 y2 z2,.slice x3 y3 z3,.slice ad O.length cap] 57)).alloc (.cells #[.string p.nm,.int .i64 p.a,.int .i64 p.b,.int .i64 p.c] 80))):=aR _ _ _;have HC0:=aA hc;have HD0:=aA ho;have HFN0:Hid (∀ w',dG L O E FU [p] []=none→Below w.heap.size w w'→BV w L (dG L O E FU [p] []) (.returned (.tuple #[.slice none 0 0,.bool false])) w'):=fun w' h hb=>⟨fun _=>rfl,fun o h2=>(by rw [h] at h2;cases h2),hb⟩
 have HFS0:Hid (∀ w' v out ts,dG L O E FU [p] []=some out→(ts.Perm out∧(ts.Pairwise fun x y=>ltP y x=false)∧GoodC L out)→OwnPn w' w.heap.size v ts→Below w.heap.size w w'→BV w L (dG L O E FU [p] []) (.returned (.tuple #[v,.bool true])) w'):=fun w' v out ts h h1 h2 hb=>⟨fun h3=>(by rw [h] at h3;cases h3),fun o h3=>(by rw [h] at h3;cases h3;exact ⟨v,ts,rfl,h1,h2⟩),hb⟩
 generalize hHQ:BV w L (dG L O E FU [p] [])=HQ at*;clear hHQ hc ho hon he hen hei hkp;have k0:((w.alloc (.cells #[.slice x1 y1 z1,.slice x2 y2 z2,.slice x3 y3 z3,.slice ad O.length cap] 57)).alloc (.cells #[.string p.nm,.int .i64 p.a,.int .i64 p.b,.int .i64 p.c] 80)).cell? ⟨w.heap.size+1,0,none⟩=some (.string p.nm):=(aY (by simp) rfl).1;have k1:((w.alloc (.cells #[.slice x1 y1 z1,.slice x2 y2 z2,.slice x3 y3 z3,.slice ad O.length cap] 57)).alloc (.cells #[.string p.nm,.int .i64 p.a,.int .i64 p.b,.int .i64 p.c] 80)).cell? ⟨w.heap.size+1,1,none⟩=some (.int .i64 p.a):=(aY (by simp) rfl).1;have k2:((w.alloc (.cells #[.slice x1 y1 z1,.slice x2 y2 z2,.slice x3 y3 z3,.slice ad O.length cap] 57)).alloc (.cells #[.string p.nm,.int .i64 p.a,.int .i64 p.b,.int .i64 p.c] 80)).cell? ⟨w.heap.size+1,2,none⟩=some (.int .i64 p.b):=(aY (by simp) rfl).1
 have k3:((w.alloc (.cells #[.slice x1 y1 z1,.slice x2 y2 z2,.slice x3 y3 z3,.slice ad O.length cap] 57)).alloc (.cells #[.string p.nm,.int .i64 p.a,.int .i64 p.b,.int .i64 p.c] 80)).cell? ⟨w.heap.size+1,3,none⟩=some (.int .i64 p.c):=(aY (by simp) rfl).1;have hk1:w.heap.size+1<((w.alloc (.cells #[.slice x1 y1 z1,.slice x2 y2 z2,.slice x3 y3 z3,.slice ad O.length cap] 57)).alloc (.cells #[.string p.nm,.int .i64 p.a,.int .i64 p.b,.int .i64 p.c] 80)).heap.size:=by simp
 go_enter Tryz.func173,Tryz.ntmps173
 go_wp2_with (first
  |(go_at_call 213;refine HOV.out.mono ?_;rintro e w1 ⟨rfl,⟨nm,hm1⟩,hb1⟩;have HM1:=aA hm1;have HB1:=aA (aB HB0.out hb1);have j0:=(hb1.cell (p:=⟨w.heap.size+1,0,none⟩) hk1).trans k0;have j1:=(hb1.cell (p:=⟨w.heap.size+1,1,none⟩) hk1).trans k1;have j2:=(hb1.cell (p:=⟨w.heap.size+1,2,none⟩) hk1).trans k2;have j3:=(hb1.cell (p:=⟨w.heap.size+1,3,none⟩) hk1).trans k3;have hj1:w.heap.size+1<w1.heap.size:=Nat.lt_of_lt_of_le hk1 hb1.size;clear hm1 hb1 k0 k1 k2 k3)
  |(go_at_call 220;refine (HFV.out _ HB1.out).mono ?_;rintro e w2 ⟨rfl,⟨nt,ht2⟩,hb2⟩;have HT2:=aA ht2;have HB2:=aA (aB HB1.out hb2);have HM2:=aA (HM1.out.below hb2);have hw3:w2.heap.size<(w2.alloc (.cells #[.slice ad O.length cap,.map (some (w.heap.size+1+1+2))] 249)).heap.size:=(by simp);have q0:=(((aB hb2 (aD w2 (.cells #[.slice ad O.length cap,.map (some (w.heap.size+1+1+2))] 249))).cell (p:=⟨w.heap.size+1,0,none⟩) hj1).trans j0);have q1:=(((aB hb2 (aD w2 (.cells #[.slice ad O.length cap,.map (some (w.heap.size+1+1+2))] 249))).cell (p:=⟨w.heap.size+1,1,none⟩) hj1).trans j1);have q2:=(((aB hb2 (aD w2 (.cells #[.slice ad O.length cap,.map (some (w.heap.size+1+1+2))] 249))).cell (p:=⟨w.heap.size+1,2,none⟩) hj1).trans j2);have q3:=(((aB hb2 (aD w2 (.cells #[.slice ad O.length cap,.map (some (w.heap.size+1+1+2))] 249))).cell (p:=⟨w.heap.size+1,3,none⟩) hj1).trans j3);have hj3:w.heap.size+1<(w2.alloc (.cells #[.slice ad O.length cap,.map (some (w.heap.size+1+1+2))] 249)).heap.size:=(by have:=hb2.size;simp;omega);have r0:=((aD (w2.alloc (.cells #[.slice ad O.length cap,.map (some (w.heap.size+1+1+2))] 249)) (.map #[] 0)).cell (p:=⟨w.heap.size+1,0,none⟩) hj3).trans q0;have r1:=((aD (w2.alloc (.cells #[.slice ad O.length cap,.map (some (w.heap.size+1+1+2))] 249)) (.map #[] 0)).cell (p:=⟨w.heap.size+1,1,none⟩) hj3).trans q1;have r2:=((aD (w2.alloc (.cells #[.slice ad O.length cap,.map (some (w.heap.size+1+1+2))] 249)) (.map #[] 0)).cell (p:=⟨w.heap.size+1,2,none⟩) hj3).trans q2;have r3:=((aD (w2.alloc (.cells #[.slice ad O.length cap,.map (some (w.heap.size+1+1+2))] 249)) (.map #[] 0)).cell (p:=⟨w.heap.size+1,3,none⟩) hj3).trans q3;clear ht2 hb2 j0 j1 j2 j3))
 have hWs:(w2.alloc (.cells #[.slice ad O.length cap,.map (some (w.heap.size+1+1+2))] 249)).heap.size=w2.heap.size+1:=by simp
 have HBW:Hid (Below w.heap.size w (w2.alloc (.cells #[.slice ad O.length cap,.map (some (w.heap.size+1+1+2))] 249))):=aB HB2.out (aD _ _);have HCA:Hid (CatAt (w2.alloc (.cells #[.slice ad O.length cap,.map (some (w.heap.size+1+1+2))] 249)) B C Q L):=HC0.out.below HBW.out;have HDE:Hid (DepsAt (w2.alloc (.cells #[.slice ad O.length cap,.map (some (w.heap.size+1+1+2))] 249)) (.slice ad O.length cap) O):=HD0.out.below HBW.out;have HMO:Hid (SmAt (w2.alloc (.cells #[.slice ad O.length cap,.map (some (w.heap.size+1+1+2))] 249)) (w.heap.size+1+1+2) nm (.int .i64 0) (aJ O)):=HM2.out.below (aD _ _);have HMT:Hid (SmAt (w2.alloc (.cells #[.slice ad O.length cap,.map (some (w.heap.size+1+1+2))] 249)) w1.heap.size nt zV (bC E)):=HT2.out.below (aD _ _)
 have o0:(w2.alloc (.cells #[.slice ad O.length cap,.map (some (w.heap.size+1+1+2))] 249)).cell? ⟨w2.heap.size,0,none⟩=some (.slice ad O.length cap):=by simp
 have o1:(w2.alloc (.cells #[.slice ad O.length cap,.map (some (w.heap.size+1+1+2))] 249)).cell? ⟨w2.heap.size,1,none⟩=some (.map (some (w.heap.size+1+1+2))):=by simp
 clear q0 q1 q2 q3 r0 r1 r2 r3 HM1 HM2 HT2 HB1 HB2 HC0 HD0 HOV HFV HB0 hj1 hj3 hk1;generalize (w2.alloc (.cells #[.slice ad O.length cap,.map (some (w.heap.size+1+1+2))] 249))=W at*;have HS0:Hid (SmAt ((W.alloc (.map #[] 0)).alloc (.cells #[.string p.nm,.int .i64 p.a,.int .i64 p.b,.int .i64 p.c] 80)) W.heap.size 0 (.int .i64 0) (lB fun _=>0)):=((SmAt.new W (.int .i64 0)).below (aD _ _)).ext fun s=>rfl
 have HW0:Hid (OwnPn ((W.alloc (.map #[] 0)).alloc (.cells #[.string p.nm,.int .i64 p.a,.int .i64 p.b,.int .i64 p.c] 80)) W.heap.size (.slice (some ⟨W.heap.size+1,0,none⟩) 1 1) [p]):=⟨rfl,Or.inr ⟨W.heap.size+1,1,_,rfl,by omega,(by
  have e:(W.alloc (.map #[] 0)).heap.size=W.heap.size+1:=by simp
  rw [←e];show ((W.alloc (.map #[] 0)).heap.push _)[_]? =_;rw [Array.getElem?_push,if_pos rfl]),Nat.le_refl _,by decide,rfl,rfl⟩⟩
 have HOC:Hid (∀ y,Below W.heap.size W y→y.cell? ⟨w2.heap.size,0,none⟩=some (.slice ad O.length cap)∧y.cell? ⟨w2.heap.size,1,none⟩=some (.map (some (w.heap.size+1+1+2)))):=fun y hb=>⟨(hb.cell (p:=⟨w2.heap.size,0,none⟩) hw3).trans o0,(hb.cell (p:=⟨w2.heap.size,1,none⟩) hw3).trans o1⟩
 have HFN:Hid (∀ w',dG L O E FU [p] []=none→Below W.heap.size W w'→HQ (.returned (.tuple #[.slice none 0 0,.bool false])) w'):=fun w' h hb=>HFN0.out w' h (aB HBW.out hb)
 have HFS:Hid (∀ w' v out ts,dG L O E FU [p] []=some out→(ts.Perm out∧(ts.Pairwise fun x y=>ltP y x=false)∧GoodC L out)→OwnPn w' W.heap.size v ts→Below W.heap.size W w'→HQ (.returned (.tuple #[v,.bool true])) w'):=fun w' v out ts h h1 h2 hb=>HFS0.out w' v out ts h h1 (bZ h2 HBW.out.size) (aB HBW.out hb)
 rw [←hWs];clear hWs HFN0 HFS0 o0 o1
 go_loopw [13,14] (fun vo vi wr=>∃ (i:Nat) (out:List Pn) (cnt:ByteArray→Nat) (n:Nat),i≤(p::out).length∧vi= .int .i64 i∧Below W.heap.size W wr∧SmAt wr W.heap.size n (.int .i64 0) (lB cnt)∧n≤16*i∧Met cnt out (16*i)∧OwnPn wr W.heap.size vo (p::out)∧GoodC L out∧dG L O E FU [p] []=dG L O E (FU - i) ((p::out).drop i) out) (fun _ vi _=>FU - (intOf vi).toNat)
 case atStart=>exact ⟨0,[],fun _=>0,0,Nat.zero_le _,rfl,aR _ _ _,HS0.out,Nat.le_refl _,⟨fun s=>⟨fun h=>absurd h (Nat.lt_irrefl 0),fun h=>(by cases h)⟩,fun s=>Nat.le_refl _⟩,HW0.out,GoodC.nil L,rfl⟩
 case round=>
  obtain ⟨i,out,cnt,n,hi,rfl,hbw,hsm,hn,hmet,how,hgd,hct⟩:=hrel;have HB:=aA hbw;have HS:=aA hsm;have HM:=aA hmet;have HOW:=aA how;have HGD:=aA hgd;have HCE:=aA hct;obtain ⟨av,cv,hvo⟩:=bN how;subst hvo;have hol:out.length≤2048:=hgd.len HPL.out;have hlc:(p::out).length=out.length+1:=List.length_cons;clear hbw hsm hmet how hgd hct
  by_cases hlt:i<(p::out).length
  · have hki:(i:Int)<((p::out).length:Int):=by omega
    obtain ⟨g,cap1,hgB,hg,hv1,hcap1,⟨c0,c1,c2,c3⟩,_⟩:=fV HOW.out i hlt;injection hv1 with hq1 hq2 hq3
    subst hq1;clear hq2 hq3;have HDR:Hid ((p::out).drop i=(p::out)[i]::(p::out).drop (i+1)):=List.drop_eq_getElem_cons hlt
    have hkx:bQ (p::out)[i].nm (p::out)[i].a (p::out)[i].b (p::out)[i].c:=by
     rcases List.mem_cons.1 (List.getElem_mem hlt) with e|e
     · rw [e];exact HKP0.out
     · exact (HGD.out.2 _ e).2
    rw [HDR.out] at HCE;generalize hx:(p::out)[i]=x at*;clear hx HDR;have HBE:Hid (∀ wy,Below W.heap.size W wy→Calls Tryz.prog 221 #[.pointer (some ⟨C,0,none⟩),.agg #[.slice ad O.length cap,.map (some (w.heap.size+1+1+2))],.map (some w1.heap.size),.agg #[.string x.nm,.int .i64 x.a,.int .i64 x.b,.int .i64 x.c]] wy (wR wy (fA L O E x.nm x.a x.b x.c))):=fun wy hb=>JU (HCA.out.below hb) (HDE.out.below hb) (HMO.out.below hb) (HMT.out.below hb) x.nm x.a x.b x.c hkx
    obtain ⟨o0,o1⟩:=HOC.out _ HB.out;have hgr:g<wr.heap.size:=hg;obtain ⟨f,hf⟩:∃ f,FU - i=f+1:=⟨FU - i - 1,by omega⟩;have hf2:FU - (i+1)=f:=by omega
    rw [hf] at HCE;generalize hlp:(p::out).length=lp at*;have HLP:=aA hlp;clear hlp;cases hbc:fA L O E x.nm x.a x.b x.c with
    |none=>
     have HNO:Hid (dG L O E FU [p] []=none):=by
      unfold Hid;rw [HCE.out,qD hbc]
     rw [hbc] at HBE;clear hbc
     go_wp2_with fail
     go_region_held3 (fun w'=>w'.cell? ⟨w2.heap.size,0,none⟩=some (.slice ad O.length cap)∧w'.cell? ⟨w2.heap.size,1,none⟩=some (.map (some (w.heap.size+1+1+2)))∧w'.cell? ⟨g,i*4,none⟩=some (.string x.nm)∧w'.cell? ⟨g,i*4+1,none⟩=some (.int .i64 x.a)∧w'.cell? ⟨g,i*4+2,none⟩=some (.int .i64 x.b)∧w'.cell? ⟨g,i*4+3,none⟩=some (.int .i64 x.c)) (go_keep) (first
      |(go_at_call 221;refine (HBE.out _ HB.out.drew).mono ?_;rintro e w5 ⟨hq1,_,hb5⟩;obtain rfl:=hq1 rfl;have HB5:Hid (Below W.heap.size W w5):=aB HB.out.drew hb5;obtain ⟨o0,o1⟩:=HOC.out _ HB5.out;have d0:=(hb5.cell (p:=⟨g,i*4,none⟩) hgr).trans c0;have d1:=(hb5.cell (p:=⟨g,i*4+1,none⟩) hgr).trans c1;have d2:=(hb5.cell (p:=⟨g,i*4+2,none⟩) hgr).trans c2;have d3:=(hb5.cell (p:=⟨g,i*4+3,none⟩) hgr).trans c3;clear hb5 hq1))
     go_wp2_with fail
     exact HFN.out _ HNO.out HB5.out
    |some ps=>
     have HBC:=aA (BQ hbc HSH.out HEI.out);have HKP:Hid (∀ q ∈ ps,q.nm ∈ iS L∧bQ q.nm q.a q.b q.c):=HBC.out.2;have hpsl:ps.length≤16:=HBC.out.1
     have HCT:Hid (dG L O E FU [p] []=dG L O E (FU - (i+1)) ((p::(out++aK out ps)).drop (i+1)) (out++aK out ps)):=by
      unfold Hid
      have e:(p::(out++aK out ps)).drop (i+1)=(p::out).drop (i+1)++aK out ps:=by
       rw [←List.cons_append,List.drop_append_of_le_length (by rw [HLP.out];omega)]
      rw [HCE.out,iF hbc,hf2,e]
     rw [hbc] at HBE;clear hbc HCE hf hf2
     go_wp2_with fail
     go_region_held3 (fun w'=>w'.cell? ⟨w2.heap.size,0,none⟩=some (.slice ad O.length cap)∧w'.cell? ⟨w2.heap.size,1,none⟩=some (.map (some (w.heap.size+1+1+2)))∧w'.cell? ⟨g,i*4,none⟩=some (.string x.nm)∧w'.cell? ⟨g,i*4+1,none⟩=some (.int .i64 x.a)∧w'.cell? ⟨g,i*4+2,none⟩=some (.int .i64 x.b)∧w'.cell? ⟨g,i*4+3,none⟩=some (.int .i64 x.c)) (go_keep) (first
      |(go_at_call 221;refine (HBE.out _ HB.out.drew).mono ?_;rintro e w5 ⟨_,hq1,hb5⟩;obtain ⟨vp,rfl,hop⟩:=hq1 ps rfl;have HOP:=aA hop;obtain ⟨aa,ca,rfl⟩:=bN hop;have HB5:Hid (Below W.heap.size W w5):=aB HB.out.drew hb5;have hb6:Below wr.heap.size wr w5:=aB ((Below.refl _ _).drew) hb5;have HS5:=aA (HS.out.below hb6);have HW5:=aA (bG HOW.out hb6);clear hb6;obtain ⟨o0,o1⟩:=HOC.out _ HB5.out;have d0:=(hb5.cell (p:=⟨g,i*4,none⟩) hgr).trans c0;have d1:=(hb5.cell (p:=⟨g,i*4+1,none⟩) hgr).trans c1;have d2:=(hb5.cell (p:=⟨g,i*4+2,none⟩) hgr).trans c2;have d3:=(hb5.cell (p:=⟨g,i*4+3,none⟩) hgr).trans c3;clear hb5 hq1 hop))
     go_wp2_with fail
     go_loopw [13,50] (fun vo vj wr=>∃ (j:Nat) (cnt':ByteArray→Nat) (n':Nat),j≤ps.length∧vj= .int .i64 j∧Below W.heap.size W wr∧SmAt wr W.heap.size n' (.int .i64 0) (lB cnt')∧n'≤16*i+j∧Met cnt' (out++aK out (ps.take j)) (16*i+j)∧OwnPn wr W.heap.size vo (p::(out++aK out (ps.take j)))∧OwnPn wr W.heap.size (.slice aa ps.length ca) ps∧(Value.slice aa ps.length ca).ownBlock≠vo.ownBlock) (fun _ vj _=>ps.length - (intOf vj).toNat)
     case atStart=>
      refine ⟨0,cnt,n,Nat.zero_le _,rfl,HB5.out,HS5.out,hn,?_,?_,bZ HOP.out HB.out.size,?_⟩
      · simpa [aK] using HM.out
      · have e:p::(out++aK out (ps.take 0))=p::out:=by simp [aK]
        have e2:=HW5.out;have e3:lp=out.length+1:=by rw [←HLP.out];rfl
        rw [e];rw [e3] at e2;exact e2
      · intro q
        have h1:=(World.ownsRow.lt HOP.out g (q.trans rfl)).1;exact absurd hgr (Nat.not_lt.2 h1)
     case round=>
      obtain ⟨j,cnt',n',hj,rfl,hbw,hsm,hn',hmet,how,hps,hapart⟩:=hrel;have HB:=aA hbw;have HS:=aA hsm;have HM:=aA hmet;have HOW:=aA how;have HPS:=aA hps;have HAP:=aA hapart;obtain ⟨av,cv,hvo⟩:=bN how;obtain ⟨lq,hlq⟩:∃ l,l=(p::(out++aK out (ps.take j))).length:=⟨_,rfl⟩;rw [←hlq] at hvo;subst hvo;clear hlq;clear hbw hsm hmet how hps hapart
      by_cases hjt:j<ps.length
      · have hkj:(j:Int)<(ps.length:Int):=by omega
        obtain ⟨g2,cap2,_,hg2,hv2,_,⟨c0,c1,c2,c3⟩,_⟩:=fV HPS.out j hjt;injection hv2 with hq1 hq2 hq3
        subst hq1;clear hq2 hq3;have hkk:=(HKP.out _ (List.getElem_mem hjt)).2;have HTK:Hid (ps.take (j+1)=ps.take j++[ps[j]]):=List.take_succ_eq_append_getElem hjt
        have HFR:Hid (aK out (ps.take (j+1))=aK out (ps.take j)++(if cK (out++aK out (ps.take j)) ps[j].nm=true then [] else [ps[j]])):=by
         unfold Hid;rw [HTK.out];exact gW _ _ _
        generalize ps[j]=d at*;have hln:(out++aK out (ps.take j)).length≤2048:=(HGD.out.fresh fun q hq=>HKP.out q (List.mem_of_mem_take hq)).len HPL.out;obtain ⟨out',hout'⟩:∃ o',o'=out++aK out (ps.take j):=⟨_,rfl⟩
        have HOU:Hid (out++(aK out (ps.take j)++[d])=out'++[d]):=by
         unfold Hid;rw [hout',List.append_assoc]
        have HOV:Hid (out++aK out (ps.take j)=out'):=hout'.symm;rw [←hout'] at hln HM HOW HFR;clear hout' HTK;have hwrl:W.heap.size≤wr.heap.size:=HB.out.size;have HS1:Hid (SmAt (wr.alloc (.cells #[.string d.nm,.int .i64 d.a,.int .i64 d.b,.int .i64 d.c] 80)) W.heap.size n' (.int .i64 0) (lB cnt')):=HS.out.below (aD _ _);have hl1:=HS1.out.look1 Tryz.underlying210 (dY _) (s:=d.nm) hkk.1;rw [uE] at hl1;have HB1:Hid (Below W.heap.size W (wr.alloc (.cells #[.string d.nm,.int .i64 d.a,.int .i64 d.b,.int .i64 d.c] 80))):=aB HB.out (aD _ _);have hcm:cnt' d.nm≤100000:=by have:=HM.out.2 d.nm;omega
        have k0:(wr.alloc (.cells #[.string d.nm,.int .i64 d.a,.int .i64 d.b,.int .i64 d.c] 80)).cell? ⟨wr.heap.size,0,none⟩=some (.string d.nm):=by simp
        have k1:(wr.alloc (.cells #[.string d.nm,.int .i64 d.a,.int .i64 d.b,.int .i64 d.c] 80)).cell? ⟨wr.heap.size,1,none⟩=some (.int .i64 d.a):=by simp
        have k2:(wr.alloc (.cells #[.string d.nm,.int .i64 d.a,.int .i64 d.b,.int .i64 d.c] 80)).cell? ⟨wr.heap.size,2,none⟩=some (.int .i64 d.b):=by simp
        have k3:(wr.alloc (.cells #[.string d.nm,.int .i64 d.a,.int .i64 d.b,.int .i64 d.c] 80)).cell? ⟨wr.heap.size,3,none⟩=some (.int .i64 d.c):=by simp
        by_cases hh:cK out' d.nm=true
        · have hpos:0<cnt' d.nm:=(HM.out.1 d.nm).2 hh
          have heq0:((cnt' d.nm:Int)==0)=false:=by
           rw [beq_eq_false_iff_ne];omega
          rw [if_pos hh,List.append_nil] at HFR;have HM2:=aA (HM.out.old hh);obtain ⟨w7,hrun,hs7,hg7⟩:=HS1.out.put Tryz.underlying210 (by unfold maxLen;omega) (s:=d.nm) hkk.1 (.int .i64 ((cnt' d.nm:Int)+1));have HS7:=aA (hs7.ext (uF cnt' d.nm));have HB7:Hid (Below W.heap.size W w7):=HB1.out.grown hg7 HB1.out.size (fun q hq=>by cases hq;exact Nat.le_refl _);have HOW7:Hid (OwnPn w7 W.heap.size (.slice av lq cv) (p::out')):=gE (bG HOW.out (aD _ _)) HS1.out.isMap hg7;have HPS7:Hid (OwnPn w7 W.heap.size (.slice (some ⟨g2,0,none⟩) ps.length ca) ps):=gE (bG HPS.out (aD _ _)) HS1.out.isMap hg7;clear hs7 hg7 hh;generalize cnt' d.nm=cn at*
          go_wp2_with fail
          refine ⟨⟨j+1,_,n'+1,by omega,by go_num,HB7.out,HS7.out,by omega,?_,?_,HPS7.out,HAP.out⟩,by simp [intOf];omega⟩
          · rw [HFR.out,HOV.out]
            exact HM2.out.more (by omega)
          · rw [HFR.out,HOV.out]
            exact HOW7.out
        · have hzero:cnt' d.nm=0:=by
           rcases Nat.eq_zero_or_pos (cnt' d.nm) with q|q
           · exact q
           · exact absurd ((HM.out.1 d.nm).1 q) hh
          have HZ:=aA hzero;rw [if_neg hh] at HFR;have HM2:=aA (HM.out.fresh d);rw [hzero] at hl1
          have HCP:Hid (∀ u,(if u=d.nm then some (.int .i64 1) else lB cnt' u)=lB (fun t=>if t=d.nm then cnt' d.nm+1 else cnt' t) u):=fun u=>by
           have e:=uF cnt' d.nm u;rw [hzero] at e;rw [hzero];exact e
          have HNW:Hid (∀ i u,(bD d)[i]? =some u→((wr.alloc (.cells #[.string d.nm,.int .i64 d.a,.int .i64 d.b,.int .i64 d.c] 80)).alloc (.cells #[.string d.nm,.int .i64 d.a,.int .i64 d.b,.int .i64 d.c] 80)).cell? ((⟨wr.heap.size+1,0,none⟩:Addr).add i)=some u):=World.news_of_block (cs:= #[.string d.nm,.int .i64 d.a,.int .i64 d.b,.int .i64 d.c]) (t:=80) (fr:=(0,0)) (by
           have e:(wr.alloc (.cells #[.string d.nm,.int .i64 d.a,.int .i64 d.b,.int .i64 d.c] 80)).heap.size=wr.heap.size+1:=by simp
           rw [←e];show ((wr.alloc (.cells #[.string d.nm,.int .i64 d.a,.int .i64 d.b,.int .i64 d.c] 80)).heap.push _)[_]? =_;rw [Array.getElem?_push,if_pos rfl])
          have HOX:Hid (((wr.alloc (.cells #[.string d.nm,.int .i64 d.a,.int .i64 d.b,.int .i64 d.c] 80)).alloc (.cells #[.string d.nm,.int .i64 d.a,.int .i64 d.b,.int .i64 d.c] 80)).ownsRow W.heap.size 80 4 (.slice av lq cv) (p::out').length ((p::out').flatMap bD)):=bG HOW.out (aR _ _ _);have HPX:Hid (OwnPn ((wr.alloc (.cells #[.string d.nm,.int .i64 d.a,.int .i64 d.b,.int .i64 d.c] 80)).alloc (.cells #[.string d.nm,.int .i64 d.a,.int .i64 d.b,.int .i64 d.c] 80)) W.heap.size (.slice (some ⟨g2,0,none⟩) ps.length ca) ps):=bG HPS.out (aR _ _ _);have HSX:Hid (SmAt ((wr.alloc (.cells #[.string d.nm,.int .i64 d.a,.int .i64 d.b,.int .i64 d.c] 80)).alloc (.cells #[.string d.nm,.int .i64 d.a,.int .i64 d.b,.int .i64 d.c] 80)) W.heap.size n' (.int .i64 0) (lB cnt')):=HS1.out.below (aD _ _)
          have HBX:Hid (Below W.heap.size W ((wr.alloc (.cells #[.string d.nm,.int .i64 d.a,.int .i64 d.b,.int .i64 d.c] 80)).alloc (.cells #[.string d.nm,.int .i64 d.a,.int .i64 d.b,.int .i64 d.c] 80))):=aB HB1.out (aD _ _)
          have HXS:Hid (((wr.alloc (.cells #[.string d.nm,.int .i64 d.a,.int .i64 d.b,.int .i64 d.c] 80)).alloc (.cells #[.string d.nm,.int .i64 d.a,.int .i64 d.b,.int .i64 d.c] 80)).heap.size=wr.heap.size+2):=by
           unfold Hid
           simp
          have HK6:Hid (∀ w6,((wr.alloc (.cells #[.string d.nm,.int .i64 d.a,.int .i64 d.b,.int .i64 d.c] 80)).alloc (.cells #[.string d.nm,.int .i64 d.a,.int .i64 d.b,.int .i64 d.c] 80)).grownBy w6 (Value.slice av lq cv).ownBlock→w6.cell? ⟨wr.heap.size,0,none⟩=some (.string d.nm)):=fun w6 hg=>by
           refine (hg.cell_far ⟨wr.heap.size,0,none⟩ (by have:=HXS.out;simp only;omega) (fun q=> ?_)).trans (((aD _ _).cell (p:=⟨wr.heap.size,0,none⟩) (by simp)).trans k0)
           have:=(World.ownsRow.lt HOW.out wr.heap.size q.symm).2
           omega
          have hpl1:(p::out').length≤2049:=by rw [List.length_cons];omega
          have HEN:Hid (∀ w6 v6,w6.ownsRow W.heap.size 80 4 v6 ((p::out').length+1) ((p::out').flatMap bD++bD d)→OwnPn w6 W.heap.size v6 (p::(out'++[d]))):=fun w6 v6 h=>by
           unfold OwnPn;have e1:(p::(out'++[d])).length=(p::out').length+1:=by simp
           have e2:(p::(out'++[d])).flatMap bD=(p::out').flatMap bD++bD d:=by simp
           rw [e1,e2];exact h
          clear hh hzero
          go_wp2_with (at_builtin;refine cH (B:=W.heap.size) (wx:=((wr.alloc (.cells #[.string d.nm,.int .i64 d.a,.int .i64 d.b,.int .i64 d.c] 80)).alloc (.cells #[.string d.nm,.int .i64 d.a,.int .i64 d.b,.int .i64 d.c] 80))) (v:= .slice av lq cv) (ad:=⟨wr.heap.size+1,0,none⟩) (n:=(p::out').length) (m:=1) (news:=bD d) gV Tryz.underlying40 rfl (by decide) (by decide) rfl (.tmp 59) (.tmp 61) rfl rfl HOX.out HBX.out.size rfl rfl HNW.out (by simp [bD,Value.oneCell']) (by omega) ?_;intro v6 w6 ho6 hg6 hat6;obtain ⟨b6,d6,rfl⟩:=bN ho6;have HO6:=aA (HEN.out _ _ ho6);have HB6:Hid (Below W.heap.size W w6):=HBX.out.grown hg6 HBX.out.size (fun q hq=>(World.ownsRow.lt HOX.out q hq).1);have HS6:Hid (SmAt w6 W.heap.size n' (.int .i64 0) (lB cnt')):=HSX.out.kept hg6 (uG HOX.out HSX.out.isMap);have HP6:Hid (OwnPn w6 W.heap.size (.slice (some ⟨g2,0,none⟩) ps.length ca) ps):=World.ownsRow.kept HPX.out hg6 (Or.inr HAP.out);have HA6:Hid ((Value.slice (some ⟨g2,0,none⟩) ps.length ca).ownBlock≠(Value.slice b6 ((p::out').length+1) d6).ownBlock):=(fun q=>by rcases hat6 with e|e;exact HAP.out (q.trans e);have q2:=Option.some.inj ((show some g2=(Value.slice (some ⟨g2,0,none⟩) ps.length ca).ownBlock from rfl).trans (q.trans e));have:=HXS.out;omega);have hl6:=HS6.out.look1 Tryz.underlying210 (dY _) (s:=d.nm) hkk.1;rw [uE,HZ.out] at hl6;have k6:=HK6.out _ hg6;obtain ⟨w7,hrun,hs7,hg7⟩:=HS6.out.put Tryz.underlying210 (by unfold maxLen;omega) (s:=d.nm) hkk.1 (.int .i64 1);have HS7:=aA (hs7.ext HCP.out);have HB7:Hid (Below W.heap.size W w7):=HB6.out.grown hg7 HB6.out.size (fun q hq=>by cases hq;exact Nat.le_refl _);have HO7:=aA (gE HO6.out HS6.out.isMap hg7);have HP7:=aA (gE HP6.out HS6.out.isMap hg7);clear ho6 hat6 hg6 hs7 hg7)
          refine ⟨⟨j+1,_,n'+1,by omega,by go_num,HB7.out,HS7.out,by omega,?_,?_,HP7.out,HA6.out⟩,by simp [intOf];omega⟩
          · rw [HFR.out,HOU.out]
            exact HM2.out.more (by omega)
          · rw [HFR.out,HOU.out]
            exact HO7.out
      · obtain rfl:j=ps.length:=by omega
        have hkj:¬ ((ps.length:Int)<(ps.length:Int)):=by omega
        rw [List.take_length] at HM HOW
        go_wp2_with fail
        exact ⟨⟨i+1,out++aK out ps,cnt',n',by simp only [List.length_cons,List.length_append] at hi hlt ⊢;omega,by go_num,HB.out,HS.out,by omega,HM.out.more (by omega),HOW.out,HGD.out.fresh HKP.out,HCT.out⟩,by simp [intOf];omega⟩
  · have hie:i=out.length+1:=by omega
    subst hie;have hki:¬ (((out.length:Int)+1)<((out.length:Int)+1)):=by omega
    have HSO:Hid (dG L O E FU [p] []=some out):=by
     unfold Hid;rw [HCE.out,←hlc,List.drop_length,fC]
    obtain ⟨g,cap1,hgB,hg,hv1,hcap1,hcells⟩:=kD HOW.out (by rw [hlc];omega);injection hv1 with hq1 hq2 hq3
    subst hq1;subst hq3;have HCE2:=aA hcells;have HST:Hid (∀ w1 v,OwnPn w1 wr.heap.size v out→Calls Tryz.prog 75 #[v,.func (.func 223) #[] #[]] w1 fun e w'=>e= .returned (.tuple #[])∧∃ ts:List Pn,ts.Perm out∧(ts.Pairwise fun x y=>ltP y x=false)∧OwnPn w' wr.heap.size v ts∧w1.grownBy w' v.ownBlock):=fun w1 v h=>BU h (by omega)
    clear hcells hq2;rw [hlc] at hcap1 ⊢
    by_cases hc1:cv=1
    · have hoe:out=[]:=List.length_eq_zero_iff.1 (by omega)
      have HCL:Hid (Calls Tryz.prog 222 #[.slice (some ⟨g,0,none⟩) 0 0] wr fun e w'=>∃ v',e= .returned v'∧OwnPn w' wr.heap.size v' out∧Below wr.heap.size wr w'):=by
       rw [hoe];exact lZ (L:=[]) rfl hg (fun j u hj=>by cases hj) (by decide)
      subst hc1;have HOE:=aA hoe;have hol1:out.length=0:=by rw [hoe];rfl
      clear hoe;rw [hol1];clear hol1 hol hlc hi hlt hn hki hcap1
      go_wp2_with (first
       |(go_at_call 75;refine (HST.out _ _ HO5.out).mono ?_;rintro e w6 ⟨rfl,ts,hp,hso,ho6,hg6⟩;have HO6:=aA ho6;have HP6:=aA (And.intro hp hso);have HB6:Hid (Below W.heap.size W w6):=HB5.out.grown hg6 HB5.out.size (fun q hq=>Nat.le_trans HB.out.size (World.ownsRow.lt HO5.out q hq).1);clear hp hso ho6 hg6)
       |(go_at_call 222;refine HCL.out.mono ?_;rintro e w5 ⟨v5,rfl,ho5,hb5⟩;have HO5:=aA ho5;have HB5:Hid (Below W.heap.size W w5):=aB HB.out hb5;clear ho5 hb5))
      exact HFS.out _ _ _ _ HSO.out ⟨HP6.out.1,HP6.out.2,HGD.out⟩ (bZ HO6.out HB.out.size) HB6.out
    · have HCL:Hid (Calls Tryz.prog 222 #[.slice (some ⟨g,4,none⟩) out.length (cv - 1)] wr fun e w'=>∃ v',e= .returned v'∧OwnPn w' wr.heap.size v' out∧Below wr.heap.size wr w'):=lZ rfl hg (fun j u hj=>by
       refine HCE2.out (4+j) u ?_;rw [List.flatMap_cons,List.getElem?_append_right (by show 4≤4+j;omega)];show (out.flatMap bD)[4+j - 4]? =some u;rw [Nat.add_sub_cancel_left];exact hj) (by omega)
      have hci:(out.length:Int)+1≤(cv:Int):=by omega
      have hci1:(1:Int)≤(cv:Int):=by omega
      have hci2:¬ ((cv:Int) - 1=0):=by omega
      have hci3:(1:Int)≤(out.length:Int)+1:=by omega
      have hci4:¬ (cv - 1=0):=by omega
      clear hlc hi hlt hn
      go_wp2_with (first
       |(go_at_call 75;refine (HST.out _ _ HO5.out).mono ?_;rintro e w6 ⟨rfl,ts,hp,hso,ho6,hg6⟩;have HO6:=aA ho6;have HP6:=aA (And.intro hp hso);have HB6:Hid (Below W.heap.size W w6):=HB5.out.grown hg6 HB5.out.size (fun q hq=>Nat.le_trans HB.out.size (World.ownsRow.lt HO5.out q hq).1);clear hp hso ho6 hg6)
       |(go_at_call 222;refine HCL.out.mono ?_;rintro e w5 ⟨v5,rfl,ho5,hb5⟩;have HO5:=aA ho5;have HB5:Hid (Below W.heap.size W w5):=aB HB.out hb5;clear ho5 hb5))
      exact HFS.out _ _ _ _ HSO.out ⟨HP6.out.1,HP6.out.2,HGD.out⟩ (bZ HO6.out HB.out.size) HB6.out
end Go.Proofs.YtpfemjlhklnfoaaGreatDoor
namespace Go.Proofs.YtpfemjlhklnfoaaGreatDoor
open Go.RowKit
set_option maxRecDepth 100000
theorem FD (p q r p' q' r':Int) (w:World):(Op.equalIn 9999 31 (.agg #[.int .i64 p,.int .i64 q,.int .i64 r]) (.agg #[.int .i64 p',.int .i64 q',.int .i64 r'])).run Tryz.prog w= .ok (decide (p=p')&&decide (q=q')&&decide (r=r')) w:=by
 have u3:=Tryz.underlying3;have a3:=Tryz.isAgg3;have z3:=Tryz.sizeOf3;rw [show (9999:Nat)=9998+1 from rfl,run_equalIn_agg w 9998 31 _ _ (by kernel_rfl) (by kernel_rfl)];simp only [Program.fieldsOf,Tryz.underlying31]
 by_cases h1:p=p'
 · by_cases h2:q=q'
   · by_cases h3:r=r'
     · subst h1 h2 h3;go_simp
     · subst h1 h2;simp only [h3,decide_false,Bool.and_false];go_simp
   · subst h1;simp only [h2,decide_false,Bool.and_false,Bool.false_and];go_simp
 · simp only [h1,decide_false,Bool.false_and];go_simp
def dB (p q:Pn):Bool:=decide (p.nm.toList=q.nm.toList)&&(decide (p.a=q.a)&&decide (p.b=q.b)&&decide (p.c=q.c))
theorem fW {p q:Pn}:dB p q=true↔p=q:=by
 obtain ⟨s,a,b,c⟩:=p;obtain ⟨s',a',b',c'⟩:=q;unfold dB;simp only [Bool.and_eq_true,decide_eq_true_eq,Pn.mk.injEq];exact ⟨fun ⟨h1,⟨h2,h3⟩,h4⟩=>⟨Sc.bO h1,h2,h3,h4⟩,fun ⟨h1,h2,h3,h4⟩=>⟨by rw [h1],⟨h2,h3⟩,h4⟩⟩
theorem sA (op:BinOp) (x y:Operand) (xs ys:Array Value) (w:World):(eqGuard op 80 x y (.agg xs) (.agg ys)).run Tryz.prog w= .ok () w:=run_eqGuard_agg w op 80 x y xs ys (by kernel_rfl)
theorem NY (p q:Pn) (w:World):(binOp .neq 80 (.agg #[.string p.nm,.int .i64 p.a,.int .i64 p.b,.int .i64 p.c]) (.agg #[.string q.nm,.int .i64 q.a,.int .i64 q.b,.int .i64 q.c])).run Tryz.prog w= .ok (.bool (!(dB p q))) w:=by
 obtain ⟨s,a,b,c⟩:=p;obtain ⟨s',a',b',c'⟩:=q;have av:=Tryz.isAgg31;have zv:=Tryz.sizeOf31;have u9:=Tryz.underlying9;have a9:=Tryz.isAgg9;have z9:=Tryz.sizeOf9;have h1:=FD a b c a' b' c' w;rw [run_neq_struct,show (10000:Nat)=9999+1 from rfl,run_equalIn_agg w 9999 80 _ _ (by kernel_rfl) (by kernel_rfl)];simp only [Program.fieldsOf,Tryz.underlying80];unfold dB
 simp only
 by_cases hs:s.toList=s'.toList
 · obtain rfl:=Sc.bO hs
   by_cases hv:a=a'∧b=b'∧c=c'
   · obtain ⟨rfl,rfl,rfl⟩:=hv
     go_simp
   · have hx:(decide (a=a')&&decide (b=b')&&decide (c=c'))=false:=by
      rw [Bool.eq_false_iff];intro e;simp only [Bool.and_eq_true,decide_eq_true_eq] at e;exact hv ⟨e.1.1,e.1.2,e.2⟩
     rw [hx];go_simp;intro e1 e2 e3;exact hv ⟨e1,e2,e3⟩
 · generalize (decide (a=a')&&decide (b=b')&&decide (c=c'))=xv at*
   simp only [hs,decide_false,Bool.false_and];go_simp
theorem LX (p q:Pn) (w:World):(binOp .eql 80 (.agg #[.string p.nm,.int .i64 p.a,.int .i64 p.b,.int .i64 p.c]) (.agg #[.string q.nm,.int .i64 q.a,.int .i64 q.b,.int .i64 q.c])).run Tryz.prog w= .ok (.bool (dB p q)) w:=by
 obtain ⟨s,a,b,c⟩:=p;obtain ⟨s',a',b',c'⟩:=q;have av:=Tryz.isAgg31;have zv:=Tryz.sizeOf31;have u9:=Tryz.underlying9;have a9:=Tryz.isAgg9;have z9:=Tryz.sizeOf9;have h1:=FD a b c a' b' c' w;rw [run_eql_struct,show (10000:Nat)=9999+1 from rfl,run_equalIn_agg w 9999 80 _ _ (by kernel_rfl) (by kernel_rfl)];simp only [Program.fieldsOf,Tryz.underlying80];unfold dB
 simp only
 by_cases hs:s.toList=s'.toList
 · obtain rfl:=Sc.bO hs
   by_cases hv:a=a'∧b=b'∧c=c'
   · obtain ⟨rfl,rfl,rfl⟩:=hv
     go_simp
   · have hx:(decide (a=a')&&decide (b=b')&&decide (c=c'))=false:=by
      rw [Bool.eq_false_iff];intro e;simp only [Bool.and_eq_true,decide_eq_true_eq] at e;exact hv ⟨e.1.1,e.1.2,e.2⟩
     rw [hx];go_simp;intro e1 e2 e3;exact hv ⟨e1,e2,e3⟩
 · generalize (decide (a=a')&&decide (b=b')&&decide (c=c'))=xv at*
   simp only [hs,decide_false,Bool.false_and];go_simp
end Go.Proofs.YtpfemjlhklnfoaaGreatDoor
