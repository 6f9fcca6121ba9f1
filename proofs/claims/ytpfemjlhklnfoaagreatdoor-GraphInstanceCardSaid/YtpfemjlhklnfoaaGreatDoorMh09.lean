/- Pk10, Wa1, Wa2, Rk3, Fl1: their declarations that are needed, laid in one text, remarks and blanks left out. -/
import Derived.Test.YtpfemjlhklnfoaaGreatDoorMh08
namespace Go.Proofs.YtpfemjlhklnfoaaGreatDoor
open Go.RowKit
set_option maxRecDepth 100000
theorem OK {w:World} {N:Nat} {x y:Value} (j0:w.cell? ⟨N,0,none⟩=some x) (j1:w.cell? ⟨N,1,none⟩=some y):
 (∀ u,(w.setCell ⟨N,0,none⟩ u).cell? ⟨N,0,none⟩=some u)∧(∀ u,(w.setCell ⟨N,0,none⟩ u).cell? ⟨N,1,none⟩=some y)∧(∀ u v,((w.setCell ⟨N,0,none⟩ u).setCell ⟨N,1,none⟩ v).cell? ⟨N,0,none⟩=some u)∧(∀ u v,((w.setCell ⟨N,0,none⟩ u).setCell ⟨N,1,none⟩ v).cell? ⟨N,1,none⟩=some v):=by
 have k1:∀ u,(w.setCell ⟨N,0,none⟩ u).cell? ⟨N,1,none⟩=some y:=fun u=>(World.cell?_setCell_other _ _ _ _ (by simp)).trans j1
 have k0:∀ u,(w.setCell ⟨N,0,none⟩ u).cell? ⟨N,0,none⟩=some u:=fun u=>World.cell?_setCell_same _ _ _ j0
 exact ⟨k0,k1,fun u v=>(World.cell?_setCell_other _ _ _ _ (by simp)).trans (k0 u),fun u v=>World.cell?_setCell_same _ _ _ (k1 u)⟩
theorem wJ {w w':World} {N B:Nat} {x y:Value} (hN:B≤N) (h:Below B w w'):Below B w ((w'.setCell ⟨N,0,none⟩ x).setCell ⟨N,1,none⟩ y):=(h.setCell (p:=⟨N,0,none⟩) hN _).setCell (p:=⟨N,1,none⟩) hN _
end Go.Proofs.YtpfemjlhklnfoaaGreatDoor
namespace Go.Proofs.YtpfemjlhklnfoaaGreatDoor
open Go.RowKit Go.Maps Go.WideMaps
set_option maxRecDepth 100000
theorem aY {W:World} {cs:Array Value} {t:TypeId} {N i:Nat} {v:Value} (hN:W.heap.size=N) (h:cs[i]? =some v):(W.alloc (.cells cs t)).cell? ⟨N,i,none⟩=some v∧(W.alloc (.cells cs t)).frozen? ⟨N,i,none⟩=false:=by
 subst hN
 have hb:(W.alloc (.cells cs t)).heap[W.heap.size]? =some (.cells cs t (0,0)):=by
  show (W.heap.push _)[_]? =_;rw [Array.getElem?_push,if_pos rfl]
 generalize W.alloc (.cells cs t)=W1 at*
 constructor
 · simp [World.cell?,hb,h]
 · simp [World.frozen?,hb]
def SmAt (w:World) (M n:Nat) (z:Value) (f:ByteArray→Option Value):Prop:=∃ D:DataW Value,w.ownsMap Tryz.prog 9 eU M n D∧IsMap D∧∀ s:ByteArray,Maps.has D (jX s)=(f s).isSome∧D.atKey (jX s) (.held z)= .held ((f s).getD z)
theorem SmAt.lt {w:World} {M n:Nat} {z:Value} {f:ByteArray→Option Value} (h:SmAt w M n z f):M<w.heap.size:=by
 obtain ⟨D,h1,_⟩:=h;exact h1.lt
theorem SmAt.isMap {w:World} {M n:Nat} {z:Value} {f:ByteArray→Option Value} (h:SmAt w M n z f):∃ es cl,w.heap[M]? =some (.map es cl):=by
 obtain ⟨D,⟨es,cl,h1,_⟩,_⟩:=h;exact ⟨es,cl,h1⟩
theorem SmAt.kept {w w':World} {M n:Nat} {z:Value} {f:ByteArray→Option Value} (h:SmAt w M n z f) {row:Option Nat} (hg:w.grownBy w' row) (hr:some M≠row):SmAt w' M n z f:=by
 obtain ⟨D,h1,h2⟩:=h;exact ⟨D,h1.kept hg hr,h2⟩
theorem SmAt.below {w w':World} {M n:Nat} {z:Value} {f:ByteArray→Option Value} (h:SmAt w M n z f) (hb:Below w.heap.size w w'):SmAt w' M n z f:=by
 have hl:=h.lt;obtain ⟨D,⟨es,cl,h1,r⟩,h2⟩:=h;exact ⟨D,⟨es,cl,(hb.block M hl).trans h1,r⟩,h2⟩
theorem SmAt.more {w:World} {M n m:Nat} {z:Value} {f:ByteArray→Option Value} (h:SmAt w M n z f) (hm:n≤m):SmAt w M m z f:=by
 obtain ⟨D,h1,h2⟩:=h;exact ⟨D,h1.mono hm,h2⟩
theorem SmAt.ext {w:World} {M n:Nat} {z:Value} {f g:ByteArray→Option Value} (h:SmAt w M n z f) (hf:∀ s,f s=g s):SmAt w M n z g:=by
 obtain ⟨D,h1,h2,h3⟩:=h;exact ⟨D,h1,h2,fun s=>by rw [←hf];exact h3 s⟩
theorem SmAt.new (w:World) (z:Value):SmAt (w.alloc (.map #[] 0)) w.heap.size 0 z fun _=>none:=
 ⟨.map [],World.ownsMap_made (H:=Value) w Tryz.prog 9 eU,⟨[],rfl⟩,fun _=>⟨rfl,rfl⟩⟩
theorem SmAt.look2 {w:World} {M n:Nat} {z:Value} {f:ByteArray→Option Value} (h:SmAt w M n z f) {t e:TypeId} (ht:Tryz.prog.underlying t=some (.map 9 e)) (hz:(zeroValue e).run Tryz.prog w= .ok z w) {s:ByteArray} (hs:s.size≤maxLen):(Instr.lookup t (.map (some M)) (.string s) true).run Tryz.prog w= .ok (.tuple #[(f s).getD z,.bool (f s).isSome]) w:=by
 obtain ⟨D,h1,_,h2⟩:=h;obtain ⟨v,ps,hr,hv⟩:=h1.look_ok gR ht hz (zd:= .held z) (zp:=[]) rfl (rS hs);rw [(h2 s).1] at hr;rw [(h2 s).2] at hv;rw [hr,fP hv]
theorem SmAt.look1 {w:World} {M n:Nat} {z:Value} {f:ByteArray→Option Value} (h:SmAt w M n z f) {t e:TypeId} (ht:Tryz.prog.underlying t=some (.map 9 e)) (hz:(zeroValue e).run Tryz.prog w= .ok z w) {s:ByteArray} (hs:s.size≤maxLen):(Instr.lookup t (.map (some M)) (.string s) false).run Tryz.prog w= .ok ((f s).getD z) w:=by
 obtain ⟨D,h1,_,h2⟩:=h;obtain ⟨v,ps,hr,hv⟩:=h1.lookup gR ht hz (zd:= .held z) (zp:=[]) rfl (rS hs);rw [(h2 s).2] at hv;rw [hr,fP hv]
theorem wK {D:DataW Value} (h:IsMap D) (k:Lit) (d:DataW Value):IsMap (D.put k d):=by
 obtain ⟨es,rfl⟩:=h;exact ⟨_,rfl⟩
theorem SmAt.put {w:World} {M n:Nat} {z:Value} {f:ByteArray→Option Value} (h:SmAt w M n z f) {t e:TypeId} (ht:Tryz.prog.underlying t=some (.map 9 e)) (hn:n<maxLen) {s:ByteArray} (hs:s.size≤maxLen) (v:Value):∃ w',(Instr.mapUpdate t (.map (some M)) (.string s) v).run Tryz.prog w= .ok () w'∧SmAt w' M (n+1) z (fun u=>if u=s then some v else f u)∧w.grownBy w' (some M):=by
 obtain ⟨D,h1,hm,h2⟩:=h;obtain ⟨w',hr,ho,hg⟩:=h1.update gR ht hn (rS hs) (val:=v) (d:= .held v) (ps:=[]) rfl;refine ⟨w',hr,⟨_,ho,wK hm _ _,fun u=> ?_⟩,hg⟩;show Maps.has _ _=(if u=s then some v else f u).isSome∧DataW.atKey _ _ _= .held ((if u=s then some v else f u).getD z)
 by_cases e:u=s
 · subst e
   rw [has_put_same hm (nN u),atKey_put_same hm (nN u),if_pos rfl];exact ⟨rfl,rfl⟩
 · rw [has_put_other fun k=>e (nM k),atKey_put_other fun k=>e (nM k),if_neg e]
   exact h2 u
def isD (s:ByteArray) (d:Dp):Bool:=decide (d.nm=s)
def aJ (O:List Dp) (s:ByteArray):Option Value:=(O.findIdx? (isD s)).map fun i:Nat=>Value.int .i64 (i:Int)
theorem lV (O:List Dp) (d:Dp) (s:ByteArray):aJ (O++[d]) s=if (aJ O s).isSome=true then aJ O s else (if d.nm=s then some (.int .i64 O.length) else none):=by
 unfold aJ;rw [List.findIdx?_append];cases h:O.findIdx? (isD s) with
 |some i=>simp
 |none=>by_cases e:d.nm=s<;>simp [isD,e]
theorem rW {O:List Dp} {d:Dp} (h:(aJ O d.nm).isSome=true) (s:ByteArray):aJ O s=aJ (O++[d]) s:=by
 rw [lV]
 by_cases e:(aJ O s).isSome=true
 · rw [if_pos e]
 · rw [if_neg e,if_neg (fun q=>e (by rw [←q];exact h))]
   cases hf:aJ O s with
   |none=>rfl
   |some v=>rw [hf] at e;exact absurd rfl e
theorem wL {O:List Dp} {d:Dp} (h:(aJ O d.nm).isSome=false) (s:ByteArray):(if s=d.nm then some (.int .i64 O.length) else aJ O s)=aJ (O++[d]) s:=by
 rw [lV]
 by_cases e:s=d.nm
 · subst e
   rw [if_pos rfl,h,if_neg (by decide),if_pos rfl]
 · rw [if_neg e]
   by_cases q:(aJ O s).isSome=true
   · rw [if_pos q]
   · rw [if_neg q,if_neg (fun x=>e x.symm)]
     cases hf:aJ O s with
     |none=>rfl
     |some v=>rw [hf] at q;exact absurd rfl q
theorem DepsAt.el {w:World} {v:Value} {O:List Dp} (h:DepsAt w v O):∃ ad cap,v= .slice ad O.length cap∧O.length≤cap∧∀ k (_:k<O.length),∃ g o,ad=some ⟨g,o,none⟩∧∃ au nu cu,DpIn w g (o+k*2) O[k] (.slice au nu cu):=by
 obtain ⟨ad,cap,hv,hc,hl⟩:=h;refine ⟨ad,cap,hv,hc,fun k hk=> ?_⟩
 rcases hl with e|⟨g,o,e,_,hs⟩
 · rw [e] at hk;cases hk
 · obtain ⟨u,hu⟩:=hs k hk
   obtain ⟨au,nu,cu,rfl,_⟩:=hu.2.2.1.1.2;exact ⟨g,o,e,au,nu,cu,hu⟩
set_option maxHeartbeats 6400000 in
theorem rX {w:World} {O:List Dp} {x1 x2 x3:Option Addr} {y1 y2 y3 z1 z2 z3:Nat} {v4:Value} (h:DepsAt w v4 O) (hlen:O.length≤9223372036854775807) (hn:∀ d ∈ O,d.nm.size≤9223372036854775807):Calls Tryz.prog 213 #[.agg #[.slice x1 y1 z1,.slice x2 y2 z2,.slice x3 y3 z3,v4]] w fun e w'=>e= .returned (.agg #[v4,.map (some (w.heap.size+2))])∧(∃ n,SmAt w' (w.heap.size+2) n (.int .i64 0) (aJ O))∧Below w.heap.size w w':=by
 have hmm:= @run_makeMap Tryz.prog;obtain ⟨ad,cap,rfl,hcap,hel⟩:=h.el;have HEL:=aA hel;have HN:=aA hn;clear h hel hn
 go_enter Tryz.func213,Tryz.ntmps213
 have HBW:Hid (Below w.heap.size w ((((w.alloc (.cells #[.slice x1 y1 z1,.slice x2 y2 z2,.slice x3 y3 z3,.slice ad O.length cap] 57)).alloc (.cells #[.slice none 0 0,.map none] 249)).alloc (.map #[] 0)).alloc (.cells #[.slice ad O.length cap,.map (some (w.heap.size+1+1))] 249))):=aB (aB (aR _ _ _) (aD _ _)) (aD _ _)
 have HM0:Hid (SmAt ((((w.alloc (.cells #[.slice x1 y1 z1,.slice x2 y2 z2,.slice x3 y3 z3,.slice ad O.length cap] 57)).alloc (.cells #[.slice none 0 0,.map none] 249)).alloc (.map #[] 0)).alloc (.cells #[.slice ad O.length cap,.map (some (w.heap.size+1+1))] 249)) (w.heap.size+1+1) 0 (.int .i64 0) (aJ (O.take 0))):=by
  have e:((w.alloc (.cells #[.slice x1 y1 z1,.slice x2 y2 z2,.slice x3 y3 z3,.slice ad O.length cap] 57)).alloc (.cells #[.slice none 0 0,.map none] 249)).heap.size=w.heap.size+1+1:=by simp
  have q:=SmAt.new ((w.alloc (.cells #[.slice x1 y1 z1,.slice x2 y2 z2,.slice x3 y3 z3,.slice ad O.length cap] 57)).alloc (.cells #[.slice none 0 0,.map none] 249)) (.int .i64 0);rw [e] at q;exact (q.below (aD _ _)).ext fun s=>rfl
 have c30:((((w.alloc (.cells #[.slice x1 y1 z1,.slice x2 y2 z2,.slice x3 y3 z3,.slice ad O.length cap] 57)).alloc (.cells #[.slice none 0 0,.map none] 249)).alloc (.map #[] 0)).alloc (.cells #[.slice ad O.length cap,.map (some (w.heap.size+1+1))] 249)).cell? ⟨w.heap.size+1+1+1,0,none⟩=some (.slice ad O.length cap):=(aY (by simp) rfl).1;have c31:((((w.alloc (.cells #[.slice x1 y1 z1,.slice x2 y2 z2,.slice x3 y3 z3,.slice ad O.length cap] 57)).alloc (.cells #[.slice none 0 0,.map none] 249)).alloc (.map #[] 0)).alloc (.cells #[.slice ad O.length cap,.map (some (w.heap.size+1+1))] 249)).cell? ⟨w.heap.size+1+1+1,1,none⟩=some (.map (some (w.heap.size+1+1))):=(aY (by simp) rfl).1
 have r0:((((w.alloc (.cells #[.slice x1 y1 z1,.slice x2 y2 z2,.slice x3 y3 z3,.slice ad O.length cap] 57)).alloc (.cells #[.slice none 0 0,.map none] 249)).alloc (.map #[] 0)).alloc (.cells #[.slice ad O.length cap,.map (some (w.heap.size+1+1))] 249)).cell? ⟨w.heap.size+1,0,none⟩=some (.slice none 0 0):=((aR _ _ _).cell (p:=⟨w.heap.size+1,0,none⟩) (by simp)).trans (aY (by simp) rfl).1;have r1:((((w.alloc (.cells #[.slice x1 y1 z1,.slice x2 y2 z2,.slice x3 y3 z3,.slice ad O.length cap] 57)).alloc (.cells #[.slice none 0 0,.map none] 249)).alloc (.map #[] 0)).alloc (.cells #[.slice ad O.length cap,.map (some (w.heap.size+1+1))] 249)).cell? ⟨w.heap.size+1,1,none⟩=some (.map none):=((aR _ _ _).cell (p:=⟨w.heap.size+1,1,none⟩) (by simp)).trans (aY (by simp) rfl).1
 have f0:((((w.alloc (.cells #[.slice x1 y1 z1,.slice x2 y2 z2,.slice x3 y3 z3,.slice ad O.length cap] 57)).alloc (.cells #[.slice none 0 0,.map none] 249)).alloc (.map #[] 0)).alloc (.cells #[.slice ad O.length cap,.map (some (w.heap.size+1+1))] 249)).frozen? ⟨w.heap.size+1,0,none⟩=false:=((aR _ _ _).frozen (p:=⟨w.heap.size+1,0,none⟩) (by simp)).trans (aY (v:= .slice none 0 0) (by simp) rfl).2;have f1:((((w.alloc (.cells #[.slice x1 y1 z1,.slice x2 y2 z2,.slice x3 y3 z3,.slice ad O.length cap] 57)).alloc (.cells #[.slice none 0 0,.map none] 249)).alloc (.map #[] 0)).alloc (.cells #[.slice ad O.length cap,.map (some (w.heap.size+1+1))] 249)).frozen? ⟨w.heap.size+1,1,none⟩=false:=((aR _ _ _).frozen (p:=⟨w.heap.size+1,1,none⟩) (by simp)).trans (aY (v:= .map none) (by simp) rfl).2
 have hsz:((((w.alloc (.cells #[.slice x1 y1 z1,.slice x2 y2 z2,.slice x3 y3 z3,.slice ad O.length cap] 57)).alloc (.cells #[.slice none 0 0,.map none] 249)).alloc (.map #[] 0)).alloc (.cells #[.slice ad O.length cap,.map (some (w.heap.size+1+1))] 249)).heap.size=w.heap.size+1+1+1+1:=by simp
 go_wp2_with fail
 generalize ((((w.alloc (.cells #[.slice x1 y1 z1,.slice x2 y2 z2,.slice x3 y3 z3,.slice ad O.length cap] 57)).alloc (.cells #[.slice none 0 0,.map none] 249)).alloc (.map #[] 0)).alloc (.cells #[.slice ad O.length cap,.map (some (w.heap.size+1+1))] 249))=W at*;obtain ⟨M,hM⟩:∃ M,M=w.heap.size+1+1:=⟨_,rfl⟩;have hM2:w.heap.size+2=M:=by rw [hM]
 rw [←hM] at HM0 c30 c31 hsz;rw [hM2]
 try rw [←hM]
 have HSZ:=aA hsz;have HMW:=aA hM;clear hM hM2 hsz
 go_loopw [15] (fun vi wr=>∃ k:Nat,k≤O.length∧vi= .int .i64 k∧SmAt wr M k (.int .i64 0) (aJ (O.take k))∧W.grownBy wr (some M)) (fun vi _=>O.length - (intOf vi).toNat)
 case atStart=>exact ⟨0,Nat.zero_le _,rfl,HM0.out,⟨rfl,rfl,rfl,Nat.le_refl _,fun _ _ _=>rfl⟩⟩
 case round=>
  obtain ⟨k,hk,rfl,hsm,hgr⟩:=hrel;have HS:=aA hsm;have HG:=aA hgr;have HBR:Hid (Below w.heap.size w wr):=HBW.out.grown hgr HBW.out.size (fun j hj=>by cases hj;have:=HMW.out;omega);have d30:=(hgr.cell_far ⟨M+1,0,none⟩ (by have:=HSZ.out;simp only;omega) (fun q=>by have:=Option.some.inj q;simp only at this;omega)).trans c30;have d31:=(hgr.cell_far ⟨M+1,1,none⟩ (by have:=HSZ.out;simp only;omega) (fun q=>by have:=Option.some.inj q;simp only at this;omega)).trans c31;clear hsm hgr
  by_cases hlt:k<O.length
  · have hki:(k:Int)<(O.length:Int):=by omega
    obtain ⟨g,o,rfl,au,nu,cu,e0,e1,_,hg⟩:=HEL.out k hlt;have hnm:=HN.out _ (List.getElem_mem hlt);have HTK:Hid (O.take (k+1)=O.take k++[O[k]]):=List.take_succ_eq_append_getElem hlt;have HTL:Hid ((O.take k).length=k):=by unfold Hid;rw [List.length_take];omega
    have p0:=(HBR.out.cell (p:=⟨g,o+k*2,none⟩) hg).trans e0;have p1:=(HBR.out.cell (p:=⟨g,o+k*2+1,none⟩) hg).trans e1;generalize O[k]=d at*;have HS1:Hid (SmAt (wr.alloc (.cells #[.string d.nm,.slice au nu cu] 89)) M k (.int .i64 0) (aJ (O.take k))):=HS.out.below (aD _ _);have hl:=HS1.out.look2 Tryz.underlying210 (dY _) (s:=d.nm) (by unfold maxLen;omega);have HG1:Hid (W.grownBy (wr.alloc (.cells #[.string d.nm,.slice au nu cu] 89)) (some M)):=HG.out.trans (dV (aD _ _));have hmr:=HS.out.lt;have hd30:=((aD wr (.cells #[.string d.nm,.slice au nu cu] 89)).cell (p:=⟨M+1,0,none⟩) (by have:=HG.out.size;have:=HSZ.out;simp only;omega)).trans d30;have hd31:=((aD wr (.cells #[.string d.nm,.slice au nu cu] 89)).cell (p:=⟨M+1,1,none⟩) (by have:=HG.out.size;have:=HSZ.out;simp only;omega)).trans d31;have HT:=aA (rW (O:=O.take k) (d:=d));have HU:=aA (wL (O:=O.take k) (d:=d));rw [←HTK.out,HTL.out] at HU
    rw [←HTK.out] at HT;clear HTK HTL e0 e1;cases hf:aJ (O.take k) d.nm with
    |some v=>
     rw [hf] at hl HT;simp only [Option.isSome,Option.getD] at hl;clear HU hf
     go_wp2_with fail
     exact ⟨⟨k+1,by omega,by go_num,(HS1.out.more (Nat.le_succ _)).ext (HT.out rfl),HG1.out⟩,by simp [intOf];omega⟩
    |none=>
     rw [hf] at hl HU;simp only [Option.isSome,Option.getD] at hl;obtain ⟨w2,hrun,hs2,hg2⟩:=HS1.out.put Tryz.underlying210 (by unfold maxLen;omega) (s:=d.nm) (by unfold maxLen;omega) (.int .i64 k);have HS2:=aA (hs2.ext (HU.out rfl));have HG2:=aA (HG1.out.trans hg2);clear HT hf hs2 hg2
     go_wp2_with fail
     exact ⟨⟨k+1,by omega,by go_num,HS2.out,HG2.out⟩,by simp [intOf];omega⟩
  · obtain rfl:k=O.length:=by omega
    have hki:¬ ((O.length:Int)<(O.length:Int)):=by omega
    have HSF:Hid (SmAt wr M O.length (.int .i64 0) (aJ O)):=by
     have e:=HS.out;rw [List.take_length] at e;exact e
    have hne:some (w.heap.size+1)≠some M:=fun q=>by have:=Option.some.inj q;have:=HMW.out;omega
    have hwl:w.heap.size+1<W.heap.size:=by have:=HSZ.out;have:=HMW.out;omega
    have s0:=(HG.out.cell_far ⟨w.heap.size+1,0,none⟩ hwl hne).trans r0;have s1:=(HG.out.cell_far ⟨w.heap.size+1,1,none⟩ hwl hne).trans r1;have t0:=(HG.out.frozen_far ⟨w.heap.size+1,0,none⟩ hwl hne).trans f0;have t1:=(HG.out.frozen_far ⟨w.heap.size+1,1,none⟩ hwl hne).trans f1;have s2:=OK s0 s1
    have HFN:Hid (∀ u v,(∃ n,SmAt ((wr.setCell ⟨w.heap.size+1,0,none⟩ u).setCell ⟨w.heap.size+1,1,none⟩ v) M n (.int .i64 0) (aJ O))∧Below w.heap.size w ((wr.setCell ⟨w.heap.size+1,0,none⟩ u).setCell ⟨w.heap.size+1,1,none⟩ v)):=fun u v=>by
     refine ⟨⟨_,HSF.out.kept (row:=some (w.heap.size+1)) ?_ (fun q=>hne q.symm)⟩,wJ (by omega) HBR.out⟩;exact ⟨rfl,rfl,rfl,by simp,fun j _ hj=>(Below.heap_setCell _ _ _ j (fun e=>hj (by rw [e]))).trans (Below.heap_setCell _ _ _ j (fun e=>hj (by rw [e])))⟩
    clear HS r0 r1 f0 f1 c30 c31
    go_wp2_with fail
    all_goals try simp only [Exit.inBlock,Exit.then]
    refine bodyPost_ret (by simp [results,Tryz.results213,s2,go_sem];try rfl) rfl ?_;have e2:w.heap.size+2=M:=HMW.out.symm;rw [e2];exact ⟨rfl,(HFN.out _ _).1,(HFN.out _ _).2⟩
def bV (O:List Dp) (d:Dp):List Sp:=match O.find? (isD d.nm) with
 |some x=>x.rg
 |none=>d.rg
theorem wM {O:List Dp} {s:ByteArray} (h:aJ O s=none):O.find? (isD s)=none:=by
 unfold aJ at h;rw [Option.map_eq_none_iff,List.findIdx?_eq_none_iff] at h;rw [List.find?_eq_none];exact fun x hx=>Bool.eq_false_iff.1 (h x hx)
theorem wN {O:List Dp} {s:ByteArray} {v:Value} (h:aJ O s=some v):∃ i,∃ hi:i<O.length,v= .int .i64 i∧O.find? (isD s)=some O[i]:=by
 unfold aJ at h;rw [Option.map_eq_some_iff] at h;obtain ⟨i,h1,h2⟩:=h;rw [List.findIdx?_eq_some_iff_getElem] at h1;obtain ⟨hi,h3,h4⟩:=h1;refine ⟨i,hi,h2.symm,?_⟩;rw [List.find?_eq_some_iff_getElem];refine ⟨h3,i,hi,rfl,fun j hj=> ?_⟩
 have:=h4 j hj
 simpa using this
set_option maxHeartbeats 3200000 in
theorem pZ {w:World} {O:List Dp} {v4:Value} (h:DepsAt w v4 O) {M n:Nat} (hs:SmAt w M n (.int .i64 0) (aJ O)) (d:Dp) {au:Option Addr} {nu cu:Nat} (hd:SpansC w (.slice au nu cu) d.rg) (hdl:d.rg.length≤9223372036854775807) (hn:d.nm.size≤9223372036854775807):Calls Tryz.prog 239 #[.agg #[v4,.map (some M)],.agg #[.string d.nm,.slice au nu cu]] w fun e w'=>∃ v,e= .returned v∧SpansC w' v (bV O d)∧(bV O d).length≤9223372036854775807∧Below w.heap.size w w':=by
 obtain ⟨ad,cap,rfl,hcap,hel⟩:=h.el;have HEL:=aA hel;have HD:=aA hd;have HS:Hid (SmAt ((w.alloc (.cells #[.slice ad O.length cap,.map (some M)] 249)).alloc (.cells #[.string d.nm,.slice au nu cu] 89)) M n (.int .i64 0) (aJ O)):=hs.below (aR _ _ _);have hl:=HS.out.look2 Tryz.underlying210 (dY _) (s:=d.nm) (by unfold maxLen;omega);have HB:Hid (Below w.heap.size w ((w.alloc (.cells #[.slice ad O.length cap,.map (some M)] 249)).alloc (.cells #[.string d.nm,.slice au nu cu] 89))):=aR _ _ _;have HFN:Hid (∀ u R,SpansC w u R→SpansC ((w.alloc (.cells #[.slice ad O.length cap,.map (some M)] 249)).alloc (.cells #[.string d.nm,.slice au nu cu] 89)) u R):=fun u R hu=>⟨hu.1.below HB.out,hu.2⟩
 cases hf:aJ O d.nm with
 |none=>
  have HR:Hid (bV O d=d.rg):=by
   unfold Hid bV;rw [wM hf]
  rw [hf] at hl;simp only [Option.isSome,Option.getD] at hl;clear hf h hel hd hs
  go_enter Tryz.func239,Tryz.ntmps239
  go_wp2_with fail
  go_ret;exact ⟨_,rfl,by rw [HR.out];exact HFN.out _ _ HD.out,by rw [HR.out];exact hdl,HB.out⟩
 |some v=>
  obtain ⟨i,hi,rfl,hx⟩:=wN hf
  have HR:Hid (bV O d=O[i].rg):=by
   unfold Hid bV;rw [hx]
  rw [hf] at hl;simp only [Option.isSome,Option.getD] at hl;obtain ⟨g,o,rfl,au2,nu2,cu2,e0,e1,hsp,hg⟩:=HEL.out i hi;have p1:=(HB.out.cell (p:=⟨g,o+i*2+1,none⟩) hg).trans e1;have hki:(i:Int)<(O.length:Int):=by omega
  have HSP:=aA hsp;clear hf h hel hd hs hx e0 e1 hsp
  go_enter Tryz.func239,Tryz.ntmps239
  go_wp2_with fail
  go_ret;exact ⟨_,rfl,by rw [HR.out];exact HFN.out _ _ HSP.out.1,by rw [HR.out];exact HSP.out.2,HB.out⟩
def isN (s:ByteArray) (p:Pn):Bool:=decide (p.nm=s)
def rY (p:Pn):Value:= .agg #[.int .i64 p.a,.int .i64 p.b,.int .i64 p.c]
def bC (E:List Pn) (s:ByteArray):Option Value:=(E.find? (isN s)).map rY
def zV:Value:= .agg #[.int .i64 0,.int .i64 0,.int .i64 0]
theorem FB (w:World):(zeroValue 31).run Tryz.prog w= .ok zV w:=by kernel_rfl
theorem lX (E:List Pn) (p:Pn) (s:ByteArray):bC (E++[p]) s=if (bC E s).isSome=true then bC E s else (if p.nm=s then some (rY p) else none):=by
 unfold bC;rw [List.find?_append];cases h:E.find? (isN s) with
 |some i=>simp
 |none=>by_cases e:p.nm=s<;>simp [isN,e]
theorem rZ {E:List Pn} {p:Pn} (h:(bC E p.nm).isSome=true) (s:ByteArray):bC E s=bC (E++[p]) s:=by
 rw [lX]
 by_cases e:(bC E s).isSome=true
 · rw [if_pos e]
 · rw [if_neg e,if_neg (fun q=>e (by rw [←q];exact h))]
   cases hf:bC E s with
   |none=>rfl
   |some v=>rw [hf] at e;exact absurd rfl e
theorem wO {E:List Pn} {p:Pn} (h:(bC E p.nm).isSome=false) (s:ByteArray):(if s=p.nm then some (rY p) else bC E s)=bC (E++[p]) s:=by
 rw [lX]
 by_cases e:s=p.nm
 · subst e
   rw [if_pos rfl,h,if_neg (by decide),if_pos rfl]
 · rw [if_neg e]
   by_cases q:(bC E s).isSome=true
   · rw [if_pos q]
   · rw [if_neg q,if_neg (fun x=>e x.symm)]
     cases hf:bC E s with
     |none=>rfl
     |some v=>rw [hf] at q;exact absurd rfl q
theorem PinsAt.el {w:World} {v:Value} {E:List Pn} (h:PinsAt w v E):∃ ad cap,v= .slice ad E.length cap∧E.length≤cap∧∀ k (_:k<E.length),∃ g o,ad=some ⟨g,o,none⟩∧PnIn w g (o+k*4) E[k]:=by
 obtain ⟨ad,cap,hv,hc,hl⟩:=h;refine ⟨ad,cap,hv,hc,fun k hk=> ?_⟩
 rcases hl with e|⟨g,o,e,_,hs⟩
 · rw [e] at hk;cases hk
 · exact ⟨g,o,e,hs k hk⟩
set_option maxHeartbeats 6400000 in
theorem MT {w:World} {E:List Pn} {v:Value} (h:PinsAt w v E) (hlen:E.length≤9223372036854775807) (hn:∀ p ∈ E,p.nm.size≤9223372036854775807):Calls Tryz.prog 220 #[v] w fun e w'=>e= .returned (.map (some w.heap.size))∧(∃ n,SmAt w' w.heap.size n zV (bC E))∧Below w.heap.size w w':=by
 have hmm:= @run_makeMap Tryz.prog;obtain ⟨ad,cap,rfl,hcap,hel⟩:=h.el;have HEL:=aA hel;have HN:=aA hn;clear h hel hn
 go_enter Tryz.func220,Tryz.ntmps220
 go_wp2_with fail
 go_loopw [11] (fun vi wr=>∃ k:Nat,k≤E.length∧vi= .int .i64 k∧SmAt wr w.heap.size k zV (bC (E.take k))∧Below w.heap.size w wr) (fun vi _=>E.length - (intOf vi).toNat)
 case atStart=>exact ⟨0,Nat.zero_le _,rfl,(SmAt.new w zV).ext (fun s=>rfl),aD _ _⟩
 case round=>
  obtain ⟨k,hk,rfl,hsm,hb⟩:=hrel;have HS:=aA hsm;have HB:=aA hb;clear hsm hb
  by_cases hlt:k<E.length
  · have hki:(k:Int)<(E.length:Int):=by omega
    obtain ⟨g,o,rfl,⟨e0,e1,e2,e3⟩,hg⟩:=HEL.out k hlt;have hnm:=HN.out _ (List.getElem_mem hlt);have HTK:Hid (E.take (k+1)=E.take k++[E[k]]):=List.take_succ_eq_append_getElem hlt;have p0:=(HB.out.cell (p:=⟨g,o+k*4,none⟩) hg).trans e0;have p1:=(HB.out.cell (p:=⟨g,o+k*4+1,none⟩) hg).trans e1;have p2:=(HB.out.cell (p:=⟨g,o+k*4+2,none⟩) hg).trans e2;have p3:=(HB.out.cell (p:=⟨g,o+k*4+3,none⟩) hg).trans e3;generalize E[k]=d at*;have HS1:Hid (SmAt (wr.alloc (.cells #[.string d.nm,.int .i64 d.a,.int .i64 d.b,.int .i64 d.c] 80)) w.heap.size k zV (bC (E.take k))):=HS.out.below (aD _ _);have hl:=HS1.out.look2 Tryz.underlying213 (FB _) (s:=d.nm) (by unfold maxLen;omega);have HB1:Hid (Below w.heap.size w (wr.alloc (.cells #[.string d.nm,.int .i64 d.a,.int .i64 d.b,.int .i64 d.c] 80))):=aB HB.out (aD _ _);have HT:=aA (rZ (E:=E.take k) (p:=d));have HU:=aA (wO (E:=E.take k) (p:=d))
    rw [←HTK.out] at HT HU;have q0:(wr.alloc (.cells #[.string d.nm,.int .i64 d.a,.int .i64 d.b,.int .i64 d.c] 80)).cell? ⟨wr.heap.size,0,none⟩=some (.string d.nm):=by simp
    have q1:(wr.alloc (.cells #[.string d.nm,.int .i64 d.a,.int .i64 d.b,.int .i64 d.c] 80)).cell? ⟨wr.heap.size,1,none⟩=some (.int .i64 d.a):=by simp
    have q2:(wr.alloc (.cells #[.string d.nm,.int .i64 d.a,.int .i64 d.b,.int .i64 d.c] 80)).cell? ⟨wr.heap.size,2,none⟩=some (.int .i64 d.b):=by simp
    have q3:(wr.alloc (.cells #[.string d.nm,.int .i64 d.a,.int .i64 d.b,.int .i64 d.c] 80)).cell? ⟨wr.heap.size,3,none⟩=some (.int .i64 d.c):=by simp
    clear HTK e0 e1 e2 e3;cases hf:bC (E.take k) d.nm with
    |some v=>
     obtain ⟨x,hx⟩:∃ x:Pn,v=rY x:=by
      unfold bC at hf;rw [Option.map_eq_some_iff] at hf;obtain ⟨x,_,hx⟩:=hf;exact ⟨x,hx.symm⟩
     subst hx;rw [hf] at hl HT;simp only [Option.isSome,Option.getD,rY] at hl;clear HU hf
     go_wp2_with fail
     exact ⟨⟨k+1,by omega,by go_num,((HS1.out.below (aD _ _)).more (Nat.le_succ _)).ext (HT.out rfl),aB HB1.out (aD _ _)⟩,by simp [intOf];omega⟩
    |none=>
     rw [hf] at hl HU;simp only [Option.isSome,Option.getD,zV] at hl;obtain ⟨w2,hrun,hs2,hg2⟩:=(HS1.out.below (aD _ (.cells #[.int .i64 0,.int .i64 0,.int .i64 0] 31))).put Tryz.underlying213 (by unfold maxLen;omega) (s:=d.nm) (by unfold maxLen;omega) (rY d);have HS2:=aA (hs2.ext (HU.out rfl));have HB2:Hid (Below w.heap.size w w2):=(aB HB1.out (aD _ _)).grown hg2 (aB HB1.out (aD _ _)).size (fun j hj=>by cases hj;exact Nat.le_refl _);simp only [rY] at hrun;clear HT hf hs2 hg2
     go_wp2_with fail
     exact ⟨⟨k+1,by omega,by go_num,HS2.out,HB2.out⟩,by simp [intOf];omega⟩
  · obtain rfl:k=E.length:=by omega
    have hki:¬ ((E.length:Int)<(E.length:Int)):=by omega
    have HSF:Hid (SmAt wr w.heap.size E.length zV (bC E)):=by
     have e:=HS.out;rw [List.take_length] at e;exact e
    clear HS
    go_wp2_with fail
    go_ret;exact ⟨rfl,⟨_,HSF.out⟩,HB.out⟩
end Go.Proofs.YtpfemjlhklnfoaaGreatDoor
namespace Go.Proofs.YtpfemjlhklnfoaaGreatDoor
open Go.RowKit
set_option maxRecDepth 100000
theorem fR {s:ByteArray} {k:Nat} (h:k<s.size):s.toList.drop k=s[k]::s.toList.drop (k+1):=by
 have:=List.drop_eq_getElem_cons (l:=s.data.toList) (i:=k) (by rw [aX];exact h)
 rw [ByteArray.toList_eq];exact this
theorem uB {s:ByteArray} {k:Nat} (h:s.size≤k):s.toList.drop k=[]:=by
 rw [ByteArray.toList_eq];exact List.drop_of_length_le (by rw [aX];exact h)
theorem MU {a b:ByteArray} {k:Nat} (ha:k<a.size) (hb:k<b.size) (h:a[k]≠b[k]):Op.bytesLess (a.toList.drop k) (b.toList.drop k)=decide (a[k].toNat<b[k].toNat):=by
 rw [fR ha,fR hb];show (decide (a[k]<b[k])||(a[k]==b[k]&&_))=_;rw [show (a[k]==b[k])=false from beq_eq_false_iff_ne.2 h,Bool.false_and,Bool.or_false];rfl
theorem JS {a b:ByteArray} {k:Nat} (ha:k<a.size) (hb:k<b.size) (h:a[k]=b[k]):Op.bytesLess (a.toList.drop k) (b.toList.drop k)=Op.bytesLess (a.toList.drop (k+1)) (b.toList.drop (k+1)):=by
 rw [fR ha,fR hb,h];show (decide (b[k]<b[k])||(b[k]==b[k]&&_))=_
 simp
theorem MV {a b:ByteArray} {k:Nat} (hka:k≤a.size) (hkb:k≤b.size) (h:¬ (k<a.size∧k<b.size)):Op.bytesLess (a.toList.drop k) (b.toList.drop k)=decide (a.size<b.size):=by
 by_cases hb:k<b.size
 · have ha:a.size=k:=by omega
   rw [uB (by omega),fR hb];show true=_;rw [decide_eq_true (by omega)]
 · rw [uB (s:=b) (by omega)]
   rw [decide_eq_false (by omega)];cases List.drop k a.toList<;>rfl
set_option maxHeartbeats 1600000 in
theorem qA (a b:ByteArray) (w:World) (ha:a.size≤9223372036854775807):Calls Tryz.prog 140 #[.string a,.string b] w fun e w'=>e= .returned (.bool (ltS a b))∧Below w.heap.size w w':=by
 have HR0:Hid (ltS a b=Op.bytesLess (a.toList.drop 0) (b.toList.drop 0)):=rfl;have HK:Hid (KeepP fun w1=>Below w.heap.size w w1):=aG w
 go_enter Tryz.func140,Tryz.ntmps140
 go_wp2_with fail
 go_loopw [5] (fun i wr=>∃ k:Nat,k≤a.size∧k≤b.size∧i= .int .i64 k∧Below w.heap.size w wr∧ltS a b=Op.bytesLess (a.toList.drop k) (b.toList.drop k)) (fun i _=>a.size - (intOf i).toNat)
 case atStart=>exact ⟨0,Nat.zero_le _,Nat.zero_le _,rfl,Below.refl _ _,HR0.out⟩
 case round=>
  clear HR0;obtain ⟨k,hka,hkb,rfl,hbw,hrl⟩:=hrel;have HO:=aA hbw;have HRL:=aA hrl;clear hbw hrl
  by_cases hh:k<a.size∧k<b.size
  · obtain ⟨h1,h2⟩:=hh
    have g1:(k:Int)<(a.size:Int):=by omega
    have g2:(k:Int)<(b.size:Int):=by omega
    by_cases he:a[k]=b[k]
    · have HS:Hid (ltS a b=Op.bytesLess (a.toList.drop (k+1)) (b.toList.drop (k+1))):=by unfold Hid;rw [HRL.out,JS h1 h2 he]
      have e1:((a[k].toNat:Int)==(b[k].toNat:Int))=true:=by rw [he];simp
      clear he
      go_wp2_with fail
      refine bA HK (by kernel_rfl) (by kernel_rfl) (by first|exact HO.out|exact HK.out.drew HO.out) ?_;intro C HIN HOUT;clear HO
      repeat
       (with_reducible refine wpQuiet_step (fun K hK=> ?_)
        go_simp
        first
         |(refine hK _ ?_;clear hK K)
         |(apply Exists.intro;refine ⟨fun w1 hC=> ?_,hK _ ?_⟩;(focus ((first|(exact rfl)|(obtain hb1:=HOUT.out w1 hC;clear hC;go_simp;first|done|exact rfl));done));clear hK K))
      refine wpQuiet_nil ?_;intro wn hC;have HO:=aA (HOUT.out _ hC);clear hC HIN HOUT C;obtain hb1:=HO.out
      go_wp2
      exact ⟨⟨k+1,by omega,by omega,by go_num,HO.out,HS.out⟩,by simp [intOf];omega⟩
    · have HS:Hid (ltS a b=decide (a[k].toNat<b[k].toNat)):=by unfold Hid;rw [HRL.out,MU h1 h2 he]
      have e1:((a[k].toNat:Int)==(b[k].toNat:Int))=false:=by
       rw [beq_eq_false_iff_ne];intro e;exact he (UInt8.toNat_inj.1 (by omega))
      clear he
      by_cases hl:a[k].toNat<b[k].toNat
      · have HR:Hid (ltS a b=true):=by unfold Hid;rw [HS.out,decide_eq_true hl]
        have e2:decide ((a[k].toNat:Int)<(b[k].toNat:Int))=true:=decide_eq_true (by omega)
        go_wp2_with fail
        refine bA HK (by kernel_rfl) (by kernel_rfl) (by first|exact HO.out|exact HK.out.drew HO.out) ?_;intro C HIN HOUT;clear HO
        repeat
         (with_reducible refine wpQuiet_step (fun K hK=> ?_)
          go_simp
          first
           |(refine hK _ ?_;clear hK K)
           |(apply Exists.intro;refine ⟨fun w1 hC=> ?_,hK _ ?_⟩;(focus ((first|(exact rfl)|(obtain hb1:=HOUT.out w1 hC;clear hC;go_simp;first|done|exact rfl));done));clear hK K))
        refine wpQuiet_nil ?_;intro wn hC;have HO:=aA (HOUT.out _ hC);clear hC HIN HOUT C;obtain hb1:=HO.out
        go_wp2_with fail
        refine bA HK (by kernel_rfl) (by kernel_rfl) (by first|exact HO.out|exact HK.out.drew HO.out) ?_;intro C HIN HOUT;clear HO
        repeat
         (with_reducible refine wpQuiet_step (fun K hK=> ?_)
          go_simp
          first
           |(refine hK _ ?_;clear hK K)
           |(apply Exists.intro;refine ⟨fun w1 hC=> ?_,hK _ ?_⟩;(focus ((first|(exact rfl)|(obtain hb2:=HOUT.out w1 hC;clear hC;go_simp;first|done|exact rfl));done));clear hK K))
        refine wpQuiet_nil ?_;intro wm hC;have HO:=aA (HOUT.out _ hC);clear hC HIN HOUT C;obtain hb2:=HO.out
        go_wp2
        go_ret;exact ⟨aC HR.out.symm,HO.out⟩
      · have HR:Hid (ltS a b=false):=by unfold Hid;rw [HS.out,decide_eq_false hl]
        have e2:decide ((a[k].toNat:Int)<(b[k].toNat:Int))=false:=decide_eq_false (by omega)
        go_wp2_with fail
        refine bA HK (by kernel_rfl) (by kernel_rfl) (by first|exact HO.out|exact HK.out.drew HO.out) ?_;intro C HIN HOUT;clear HO
        repeat
         (with_reducible refine wpQuiet_step (fun K hK=> ?_)
          go_simp
          first
           |(refine hK _ ?_;clear hK K)
           |(apply Exists.intro;refine ⟨fun w1 hC=> ?_,hK _ ?_⟩;(focus ((first|(exact rfl)|(obtain hb1:=HOUT.out w1 hC;clear hC;go_simp;first|done|exact rfl));done));clear hK K))
        refine wpQuiet_nil ?_;intro wn hC;have HO:=aA (HOUT.out _ hC);clear hC HIN HOUT C;obtain hb1:=HO.out
        go_wp2_with fail
        refine bA HK (by kernel_rfl) (by kernel_rfl) (by first|exact HO.out|exact HK.out.drew HO.out) ?_;intro C HIN HOUT;clear HO
        repeat
         (with_reducible refine wpQuiet_step (fun K hK=> ?_)
          go_simp
          first
           |(refine hK _ ?_;clear hK K)
           |(apply Exists.intro;refine ⟨fun w1 hC=> ?_,hK _ ?_⟩;(focus ((first|(exact rfl)|(obtain hb2:=HOUT.out w1 hC;clear hC;go_simp;first|done|exact rfl));done));clear hK K))
        refine wpQuiet_nil ?_;intro wm hC;have HO:=aA (HOUT.out _ hC);clear hC HIN HOUT C;obtain hb2:=HO.out
        go_wp2
        go_ret;exact ⟨aC HR.out.symm,HO.out⟩
  · have HR:Hid (ltS a b=decide (a.size<b.size)):=by
     unfold Hid;rw [HRL.out,MV hka hkb hh]
    by_cases h1:k<a.size
    · have h2:decide ((k:Int)<(b.size:Int))=false:=decide_eq_false (by omega)
      have g1:(k:Int)<(a.size:Int):=by omega
      go_wp2
      go_ret;exact ⟨aC HR.out.symm,HO.out⟩
    · have h2:decide ((k:Int)<(a.size:Int))=false:=decide_eq_false (by omega)
      go_wp2
      go_ret;exact ⟨aC HR.out.symm,HO.out⟩
def bP (A B:List Dp):Bool:=A.all fun d=>B.all fun e=> !(d.nm.toList==e.nm.toList)
theorem FC {A B:List Dp} {i k:Nat} (hi:i<A.length) (hk:k<B.length) (h:(A[i].nm.toList==B[k].nm.toList)=true):bP A B=false:=by
 rw [Bool.eq_false_iff];intro ha
 have:=List.all_eq_true.1 (List.all_eq_true.1 ha _ (List.getElem_mem hi)) _ (List.getElem_mem hk)
 rw [h] at this;cases this
set_option maxHeartbeats 3200000 in
theorem jG {A B:List Dp} {va vb:Value} {w:World} (ha:DepsAt w va A) (hb:DepsAt w vb B) (hz:A.length≤1000000∧B.length≤1000000):Calls Tryz.prog 88 #[va,vb] w fun e w'=>e= .returned (.bool (bP A B))∧Below w.heap.size w w':=by
 have HA:Hid (∀ w1,Below w.heap.size w w1→DepsAt w1 va A):=fun w1 h=>ha.below h
 have HB:Hid (∀ w1,Below w.heap.size w w1→DepsAt w1 vb B):=fun w1 h=>hb.below h
 obtain ⟨aa,ca,rfl⟩:=ha.sl;obtain ⟨ab,cb,rfl⟩:=hb.sl;obtain ⟨z1,z2⟩:=hz;clear ha hb
 go_enter Tryz.func88,Tryz.ntmps88
 go_wp2_with fail
 go_loopw [5] (fun i wr=>∃ k:Nat,k≤A.length∧i= .int .i64 k∧Below w.heap.size w wr∧bP A B=bP (A.drop k) B) (fun i _=>A.length - (intOf i).toNat)
 case atStart=>exact ⟨0,Nat.zero_le _,rfl,Below.refl _ _,rfl⟩
 case round=>
  obtain ⟨k,hk,rfl,hbw,hap⟩:=hrel;have HBW:=aA hbw;have HAP:=aA hap;clear hap
  by_cases hlt:k<A.length
  · have HAPK:Hid (bP A B=((B.all fun e=> !(A[k].nm.toList==e.nm.toList))&&bP (A.drop (k+1)) B)):=by
     unfold Hid;rw [HAP.out,List.drop_eq_getElem_cons hlt];rfl
    clear hbw HAP
    go_wp2_with fail
    go_loopw [6] (fun j wq=>∃ m:Nat,m≤B.length∧j= .int .i64 m∧Below w.heap.size w wq∧(B.all fun e=> !(A[k].nm.toList==e.nm.toList))=((B.drop m).all fun e=> !(A[k].nm.toList==e.nm.toList))) (fun j _=>B.length - (intOf j).toNat)
    case atStart=>exact ⟨0,Nat.zero_le _,rfl,HBW.out,rfl⟩
    case round=>
     clear HBW;obtain ⟨m,hm,rfl,hbw,hal⟩:=hrel;have HAL:=aA hal;have HBW:=aA hbw;clear hal
     by_cases hml:m<B.length
     · obtain ⟨ad1,cap1,e1,_,h1⟩:=HA.out wr hbw
       cases e1;obtain ⟨ad2,cap2,e2,_,h2⟩:=HB.out wr hbw;cases e2
       obtain ⟨ga,oa,rfl,_,h1⟩:∃ g o,aa=some ⟨g,o,none⟩∧g<wr.heap.size∧∀ i (h:i<A.length),∃ u,DpIn wr g (o+i*2) A[i] u:=by
        rcases h1 with h|h
        · rw [h] at hlt;simp at hlt
        · exact h
       obtain ⟨gb,ob,rfl,_,h2⟩:∃ g o,ab=some ⟨g,o,none⟩∧g<wr.heap.size∧∀ i (h:i<B.length),∃ u,DpIn wr g (o+i*2) B[i] u:=by
        rcases h2 with h|h
        · rw [h] at hml;simp at hml
        · exact h
       obtain ⟨u,hu⟩:=h1 k hlt;obtain ⟨v,hv⟩:=h2 m hml;have HO:Hid (Below w.heap.size w wr∧DpIn wr ga (oa+k*2) A[k] u∧DpIn wr gb (ob+m*2) B[m] v):=⟨hbw,hu,hv⟩;have HK:Hid (KeepP fun w1=>Below w.heap.size w w1∧DpIn w1 ga (oa+k*2) A[k] u∧DpIn w1 gb (ob+m*2) B[m] v):=(aG w).and ((kW _ _ _ _).and (kW _ _ _ _));have HNO:Hid ((A[k].nm.toList==B[m].nm.toList)=true→bP A B=false):=fun h=>FC hlt hml h
       have HST:Hid ((A[k].nm.toList==B[m].nm.toList)=false→(B.all fun e=> !(A[k].nm.toList==e.nm.toList))=((B.drop (m+1)).all fun e=> !(A[k].nm.toList==e.nm.toList))):=fun h=>by
        rw [HAL.out,List.drop_eq_getElem_cons hml,List.all_cons,h];rfl
       clear h1 h2 hu hv hbw HAL;cases hq:(A[k].nm.toList==B[m].nm.toList)
       · have HR:=aA (HST.out hq)
         clear HST HNO HAPK;generalize A[k]=d at*;generalize B[m]=e at*
         go_wp2_with fail
         refine bA HK (by kernel_rfl) (by kernel_rfl) (by first|exact HO.out|exact HK.out.drew HO.out) ?_;intro C HIN HOUT;clear HO
         repeat
          (with_reducible refine wpQuiet_step (fun K hK=> ?_)
           go_simp
           first
            |(refine hK _ ?_;clear hK K)
            |(apply Exists.intro;refine ⟨fun w1 hC=> ?_,hK _ ?_⟩;(focus ((first|(exact rfl)|(obtain ⟨hb1,⟨p0,p1,ph,p3⟩,⟨q0,q1,qh,q3⟩⟩:=HOUT.out w1 hC;clear hC;go_simp;first|done|exact rfl));done));clear hK K))
         refine wpQuiet_nil ?_;intro wn hC;have HO:=aA (HOUT.out _ hC);clear hC HIN HOUT C;obtain ⟨hb1,⟨p0,p1,ph,p3⟩,⟨q0,q1,qh,q3⟩⟩:=HO.out
         go_wp2
         exact ⟨⟨m+1,by omega,by go_num,HO.out.1,HR.out⟩,by simp [intOf];omega⟩
       · have HR:=aA (HNO.out hq)
         clear HST HNO HAPK;generalize A[k]=d at*;generalize B[m]=e at*
         go_wp2_with fail
         refine bA HK (by kernel_rfl) (by kernel_rfl) (by first|exact HO.out|exact HK.out.drew HO.out) ?_;intro C HIN HOUT;clear HO
         repeat
          (with_reducible refine wpQuiet_step (fun K hK=> ?_)
           go_simp
           first
            |(refine hK _ ?_;clear hK K)
            |(apply Exists.intro;refine ⟨fun w1 hC=> ?_,hK _ ?_⟩;(focus ((first|(exact rfl)|(obtain ⟨hb1,⟨p0,p1,ph,p3⟩,⟨q0,q1,qh,q3⟩⟩:=HOUT.out w1 hC;clear hC;go_simp;first|done|exact rfl));done));clear hK K))
         refine wpQuiet_nil ?_;intro wn hC;have HO:=aA (HOUT.out _ hC);clear hC HIN HOUT C;obtain ⟨hb1,⟨p0,p1,ph,p3⟩,⟨q0,q1,qh,q3⟩⟩:=HO.out
         go_wp2
         go_ret;exact ⟨aC HR.out.symm,HO.out.1⟩
     · have HN:Hid (bP A B=bP (A.drop (k+1)) B):=by
        unfold Hid;rw [HAPK.out,HAL.out,List.drop_of_length_le (by omega)];rfl
       clear hbw
       go_wp2
       exact ⟨⟨k+1,by omega,by go_num,HBW.out,HN.out⟩,by simp [intOf];omega⟩
  · have HR:Hid (bP A B=true):=by unfold Hid;rw [HAP.out,List.drop_of_length_le (by omega)];rfl
    clear hbw
    go_wp2
    go_ret;exact ⟨aC HR.out.symm,HBW.out⟩
end Go.Proofs.YtpfemjlhklnfoaaGreatDoor
namespace Go.Proofs.YtpfemjlhklnfoaaGreatDoor
open Go.RowKit Go.Maps Go.WideMaps
set_option maxRecDepth 100000
theorem Below.drewN {B:Nat} {w w':World} (h:Below B w w') (n:Nat):Below B w (w'.drewN n):=⟨h.os,h.tape,h.output,h.size,h.block⟩
theorem kD {w:World} {B:Nat} {e:TypeId} {z:Nat} {v:Value} {n:Nat} {xs:List Value} (h:w.ownsRow B e z v n xs) (hn:0<n):∃ g cap,B≤g∧g<w.heap.size∧v= .slice (some ⟨g,0,none⟩) n cap∧n≤cap∧∀ j u,xs[j]? =some u→w.cell? ⟨g,j,none⟩=some u:=by
 rcases h.2 with ⟨_,hn⟩|⟨g,cap,cur,rfl,hB,hgg,hc,_,_,ht⟩
 · omega
 · refine ⟨g,cap,hB,(Array.getElem?_eq_some_iff.1 hgg).1,rfl,hc,fun j u hj=> ?_⟩
   have e:=nT hgg ht j u hj;have e2:(⟨g,0,none⟩:Addr).add j=⟨g,j,none⟩:=by unfold Addr.add;split<;>simp_all
   rw [e2] at e;exact e
theorem bN {w:World} {B:Nat} {e:TypeId} {z:Nat} {v:Value} {n:Nat} {xs:List Value} (h:w.ownsRow B e z v n xs):∃ ad cap,v= .slice ad n cap:=by
 rcases h.2 with ⟨rfl,hn⟩|⟨g,cap,cur,rfl,_⟩
 · exact ⟨none,0,by rw [hn]⟩
 · exact ⟨_,_,rfl⟩
theorem wP (a b:ByteArray) (w:World) (ha:a.size≤9223372036854775807):Calls Tryz.prog 90 #[.string a,.string b] w fun e w'=>e= .returned (.bool (ltS a b))∧Below w.heap.size w w':=by
 have HL:Hid (∀ w1,Calls Tryz.prog 140 #[.string a,.string b] w1 fun e w'=>e= .returned (.bool (ltS a b))∧Below w1.heap.size w1 w'):=fun w1=>qA a b w1 ha
 go_enter Tryz.func90,Tryz.ntmps90
 go_wp2_with (go_at_call 140;refine (HL.out _).mono ?_;rintro e w1 ⟨rfl,hb⟩)
 go_ret;exact ⟨rfl,hb⟩
theorem qB {α:Type} (f:α→List Value) (z:Nat) (hf:∀ x,(f x).length=z):∀ (l:List α) (n:Nat),(l.take n).flatMap f=(l.flatMap f).take (n*z)
 |[],n=>by simp
 |x::l,0=>by simp
 |x::l,n+1=>by
  rw [List.take_succ_cons,List.flatMap_cons,List.flatMap_cons,qB f z hf l n,List.take_append,hf,List.take_of_length_le (l:=f x) (by rw [hf,Nat.succ_mul];omega)]
  congr 2
  rw [Nat.succ_mul];omega
theorem qC {α:Type} (f:α→List Value) (z:Nat) (hf:∀ x,(f x).length=z):∀ (l:List α) (n:Nat),(l.drop n).flatMap f=(l.flatMap f).drop (n*z)
 |[],n=>by simp
 |x::l,0=>by simp
 |x::l,n+1=>by
  rw [List.drop_succ_cons,List.flatMap_cons,qC f z hf l n,List.drop_append,hf,List.drop_of_length_le (l:=f x) (by rw [hf,Nat.succ_mul];omega),List.nil_append]
  congr 1
  rw [Nat.succ_mul];omega
theorem wQ (g o j:Nat):(⟨g,o,none⟩:Addr).add j=⟨g,o+j,none⟩:=by unfold Addr.add;split<;>simp_all
end Go.Proofs.YtpfemjlhklnfoaaGreatDoor
