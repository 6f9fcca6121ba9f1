/- Gv2, Ct11, Ct15, Ct21, Ct28, Pk10, Wa1, Wa2, We1: their declarations that are needed, laid in one text, remarks and blanks left out. -/
import Derived.Test.YtpfemjlhklnfoaaGreatDoorShelfI
import Derived.Sort.OwnSortedInts
import Derived.Test.YtpfemjlhklnfoaaGreatDoorShelfG
import Derived.RangeFuncGives
import Derived.RangeFuncBox
import Derived.Sort.MapsRangeIn
import Derived.OwnWalkIn
import Derived.TacticsInMore
import Derived.RegionIn
import Derived.LoopNIn
import Derived.LoopIn
import Derived.Test.YtpfemjlhklnfoaaGreatDoorMg06
namespace Go.Proofs.YtpfemjlhklnfoaaGreatDoor
open Go.RowKit Go.Maps Go.WideMaps Go.Sort
set_option maxRecDepth 100000
theorem oV:Keyed Tryz.prog 3:=int_keyed Tryz.underlying3
theorem AK {t:Nat} (h:t<4611686018427387904):keyOf Tryz.prog 3 (.int .i64 (t:Int))=some (.int .i64 (t:Int)):=keyOf_int_mk Tryz.underlying3 (by
 have h1:IntKind.i64.min= -9223372036854775808:=rfl;have h2:IntKind.i64.max=9223372036854775807:=rfl;simp only [Lit.wf,h1,h2,Bool.and_eq_true,decide_eq_true_eq];omega)
def CntI (w:World) (M n:Nat) (S:List Nat) (tot:Nat):Prop:=∃ (D:DataW Value) (c:Nat→Nat),w.ownsMap Tryz.prog 3 gQ M n D∧(∀ t:Nat,t<4611686018427387904→D.atKey (.int .i64 (t:Int)) (.held (.int .i64 0))= .held (.int .i64 (c t:Nat)))∧(∀ t,0<c t↔t ∈ S)∧∀ t,c t≤tot
theorem CntI.kept {w w':World} {M n:Nat} {S:List Nat} {tot:Nat} (h:CntI w M n S tot) {row:Option Nat} (hg:w.grownBy w' row) (hr:some M≠row):CntI w' M n S tot:=by
 obtain ⟨D,c,h1,h2⟩:=h;exact ⟨D,c,h1.kept hg hr,h2⟩
theorem CntI.step {w:World} {M n tot:Nat} {S S':List Nat} (h:CntI w M n S tot) {t:Nat} (ht:t<4611686018427387904) (hn:n<maxLen) (hS:∀ x,x ∈ S'↔x ∈ S∨x=t):
 ∃ k:Nat,(0<k↔t ∈ S)∧k≤tot∧∀ w2 row,w.grownBy w2 row→some M≠row→(Instr.lookup 118 (.map (some M)) (.int .i64 (t:Int)) false).run Tryz.prog w2= .ok (.int .i64 (k:Int)) w2∧
   ∃ w3,(Instr.mapUpdate 118 (.map (some M)) (.int .i64 (t:Int)) (.int .i64 ((k:Int)+1))).run Tryz.prog w2= .ok () w3∧CntI w3 M (n+1) S' (tot+1)∧w2.grownBy w3 (some M):=by
 obtain ⟨D,c,h1,h2,h3,h4⟩:=h;refine ⟨c t,h3 t,h4 t,fun w2 row hg hr=> ?_⟩;have o2:=h1.kept hg hr;have hk:=AK ht;obtain ⟨v,ps,hrun,hv⟩:=o2.lookup oV Tryz.underlying118 (AB w2) (zd:= .held (.int .i64 0)) (zp:=[]) rfl hk;rw [h2 t ht] at hv;refine ⟨by rw [hrun,jW hv],?_⟩;obtain ⟨w3,hup,o3,hg3⟩:=o2.update oV Tryz.underlying118 hn hk (val:= .int .i64 ((c t:Int)+1)) (d:= .held (.int .i64 ((c t:Int)+1))) (ps:=[]) rfl;refine ⟨w3,hup,⟨_,fun x=>if x=t then c t+1 else c x,o3,fun x hx=> ?_,fun x=> ?_,fun x=> ?_⟩,hg3⟩
 · dsimp only
   by_cases e:x=t
   · subst e
     rw [atKey_put_same h1.isMap (oV.key hk),if_pos rfl];rfl
   · rw [atKey_put_other (fun q=>e (by
      injection q with _ q
      omega)),h2 x hx,if_neg e]
 · dsimp only
   rw [hS]
   by_cases e:x=t
   · rw [if_pos e]
     exact ⟨fun _=>Or.inr e,fun _=>by omega⟩
   · rw [if_neg e,h3 x]
     exact ⟨Or.inl,fun q=>q.elim id fun q=>absurd q e⟩
 · dsimp only
   by_cases e:x=t
   · rw [if_pos e]
     have:=h4 t
     omega
   · rw [if_neg e]
     have:=h4 x
     omega
theorem CntI.one {w:World} {M:Nat} (h:w.ownsMap Tryz.prog 3 gQ M 0 (.map [])):∃ w2,(Instr.mapUpdate 118 (.map (some M)) (.int .i64 0) (.int .i64 1)).run Tryz.prog w= .ok () w2∧CntI w2 M 1 [0] 1∧w.grownBy w2 (some M):=by
 have h0:CntI w M 0 [] 0:=⟨_,fun _=>0,h,fun t _=>rfl,fun t=>by simp,fun t=>Nat.le_refl _⟩;obtain ⟨k,_,hk,hs⟩:=h0.step (t:=0) (S':=[0]) (by omega) (by unfold maxLen;omega) (fun x=>by simp);obtain rfl:k=0:=by omega
 obtain ⟨_,w3,hup,hc,hg⟩:=hs w none ⟨rfl,rfl,rfl,Nat.le_refl _,fun _ _ _=>rfl⟩ (by simp);exact ⟨w3,hup,hc,hg⟩
def gG (l:List Nat):List Value:=l.map fun r:Nat=>Value.int .i64 (r:Int)
theorem gH (l:List Nat) (r:Nat):gG (l++[r])=gG l++[.int .i64 (r:Int)]:=by simp [gG]
def OwnN (w:World) (B:Nat) (v:Value) (l:List Nat):Prop:=w.ownsRow B 3 1 v l.length (gG l)
def InN (w:World) (g o:Nat) (x:Int):Prop:=w.cell? ⟨g,o,none⟩=some (.int .i64 x)∧g<w.heap.size
theorem qO (g o:Nat) (x:Int):KeepP fun w1=>InN w1 g o x:=fun _ _ h hb=>⟨(hb.cell (p:=⟨g,o,none⟩) h.2).trans h.1,Nat.lt_of_lt_of_le h.2 hb.size⟩
theorem OwnN.below {w w':World} {B:Nat} {v:Value} {l:List Nat} (h:OwnN w B v l) (hb:Below w.heap.size w w'):OwnN w' B v l:=by
 refine ⟨h.1,h.2.imp id ?_⟩;rintro ⟨g,cap,cur,rfl,hB,hgg,r⟩;exact ⟨g,cap,cur,rfl,hB,(hb.block g (Array.getElem?_eq_some_iff.1 hgg).1).trans hgg,r⟩
theorem OwnN.at {w:World} {B q c:Nat} {l:List Nat} (h:OwnN w B (.slice (some ⟨q,0,none⟩) l.length c) l) {i:Nat} (hi:i<l.length):InN w q i (l[i]:Int):=by
 have e:=World.ownsRow.cellAt h i (by omega);have e2:(gG l)[i]? =some (.int .i64 (l[i]:Int)):=by simp [gG,hi]
 exact ⟨e.trans e2,(World.ownsRow.lt h q rfl).2⟩
theorem iT:(Tryz.prog.info? 3).map (fun i=>(i.zero,i.size,i.bytes))=some (some (.int .i64 0),1,8):=by kernel_rfl
theorem AC {w:World} {B n q cap:Nat} {S:List Nat} (h:OwnN w B (.slice (some ⟨q,0,none⟩) S.length cap) S) (hr:RI n S) (hn:n≤1000000000000000):
 Calls Tryz.prog 72 #[.slice (some ⟨q,0,none⟩) S.length cap] w fun e w'=>e= .returned (.tuple #[])∧(OwnN w' B (.slice (some ⟨q,0,none⟩) S.length cap) ((List.range n).filter fun i=>decide (i ∈ S))∧((List.range n).filter fun i=>decide (i ∈ S)).length=S.length)∧w.grownBy w' (some q):=by
 have hsz:=hr.len;have hm:=xB hr
 have hlen:((List.range n).filter fun i=>decide (i ∈ S)).length=S.length:=by
  have e:=congrArg List.length hm;rw [List.length_mergeSort,List.length_map,List.length_map] at e;exact e.symm
 rcases h.2 with ⟨e,_⟩|⟨g',cap',cur,hv,hg,hb,h1,h2,h3,h4⟩
 · cases e
 cases hv
 have h4':cur.toList.take (S.map fun x:Nat=>(x:Int)).length=(S.map fun x:Nat=>(x:Int)).map (Value.int .i64):=by
  rw [List.length_map,List.map_map];rw [Nat.mul_one] at h4;exact h4
 have hcon:=Tryz.slices_Sort_int q 0 cap (S.map fun x:Nat=>(x:Int)) w (holds_of_blockI hb h4') (Array.getElem?_eq_some_iff.1 hb).1 (by rw [List.length_map];omega);rw [List.length_map] at hcon;refine hcon.mono ?_;rintro e w' ⟨rfl,m,os,rfl⟩;rw [hm];refine ⟨rfl,⟨?_,hlen⟩,grownBy_sortedI _⟩;have q2:=ownsRow_sortedI (w:=w) (base:=B) (g:=q) (cap:=cap) (n:=m) (e:=3) (os:=os) (cur:=cur) (ss:=S.map fun x:Nat=>(x:Int)) (ts:=((List.range n).filter fun i=>decide (i ∈ S)).map fun x:Nat=>(x:Int)) (by simp [hlen]) hg hb (by simpa using h1) h2 h3;unfold OwnN gG;rw [hlen];rw [List.length_map,List.map_map] at q2;exact q2
end Go.Proofs.YtpfemjlhklnfoaaGreatDoor
namespace Go.Proofs.YtpfemjlhklnfoaaGreatDoor
open Go.RowKit
set_option maxRecDepth 100000
theorem mO {w:World} {e:TypeId} {z:Nat} {g n:Nat} {cur:Array Value} {xs:List Value} (hg:w.heap[g]? =some (.cells cur e (0,0))) (ht:cur.toList.take (n*z)=xs):∀ j u,xs[j]? =some u→w.cell? ((⟨g,0,none⟩:Addr).add j)=some u:=fun j u hj=>by
 refine World.news_of_block hg j u ?_;rw [←ht] at hj
 by_cases h:j<n*z
 · rw [List.getElem?_take_of_lt h] at hj
   exact hj
 · rw [List.getElem?_take_eq_none (by omega)] at hj
   cases hj
theorem xN {B B':Nat} {wx:World} {elt slt:TypeId} {z:Value} {sz bs n m:Nat} {v x:Value} {xs news:List Value} {ops:Array Oper} {rest:List Oper} {o:Oper} {f:Act} {Q:Exit→Act→World→Prop}
 (hinfo:(Tryz.prog.info? elt).map (fun i=>(i.zero,i.size,i.bytes))=some (some z,sz,bs)) (hund:Tryz.prog.underlying slt=some (.slice elt)) (hzc:z.cells.size=sz) (hsz:0<sz) (hbs:bs≤1000)
 (hgd:o.guard=none) (s t:Operand) (ho:o.op= .call { callee:= .builtin .append,args:= #[s,t],argTypes:= #[slt,slt] }) (hs:f.eval s=v)
 (hown:wx.ownsRow B elt sz v n xs) (hB:B≤wx.heap.size) (hx:f.eval t=x) (hxo:wx.ownsRow B' elt sz x m news) (hone:∀ u ∈ news,u.oneCell'=true) (hlen:n+m≤1000000000)
 (h:∀ v1 w1,w1.ownsRow B elt sz v1 (n+m) (xs++news)→wx.grownBy w1 v.ownBlock→(v1.ownBlock=v.ownBlock∨v1.ownBlock=some wx.heap.size)→wpList Tryz.prog ops Q rest (f.put o.dst v1) w1):
 wpList Tryz.prog ops Q (o::rest) f wx:=by
 rcases hxo.2 with ⟨rfl,rfl⟩|⟨g,cap,cur,rfl,_,hgg,_,_,_,ht⟩
 · obtain rfl:news=[]:=List.length_eq_zero_iff.1 (by rw [hxo.1,Nat.zero_mul])
   obtain ⟨i0,hi,_⟩:=Sc.bN hinfo;have h1:=h v wx (by rw [Nat.add_zero,List.append_nil];exact hown) ⟨rfl,rfl,rfl,Nat.le_refl _,fun _ _ _=>rfl⟩ (Or.inl rfl);refine wpList_plain hgd fun K hK=> ?_
   obtain ⟨base,cap,hv,hnc⟩:∃ base cap,v= .slice base n cap∧n≤cap:=by
    rcases hown.2 with ⟨rfl,rfl⟩|⟨g,cap,cur,rfl,_,_,hc,_⟩
    · exact ⟨none,0,rfl,Nat.le_refl _⟩
    · exact ⟨_,cap,rfl,hc⟩
   subst hv
   have hr:(Builtin.append_ #[slt,slt] o.type #[.slice base n cap,.slice none 0 0]).run Tryz.prog wx= .ok (.slice base n cap) wx:=by
    cases base<;>simp [Builtin.append_,run_underlying hund,sizeOf,typeInfo,hi,Builtin.lenOf,hnc,Builtin.firstCells,loadCells,storeCells]
   unfold Oper.wp execOp;simp only [ho,resolve,invoke,builtin,Sem.run_bind,Sem.run_pure,Result.andThen_ok,List.map_toArray,List.map_cons,List.map_nil,hs,hx,hr];exact hK _ _ h1
 · exact xD hinfo hund hzc hsz hbs hgd s t ho hs hown hB hx hxo.1 (mO hgg ht) hone hlen h
end Go.Proofs.YtpfemjlhklnfoaaGreatDoor
namespace Go.Proofs.YtpfemjlhklnfoaaGreatDoor
open Go.Shelf Go.RowKit Go.Lib Go.Sort
set_option maxRecDepth 100000
theorem oW (x:Vn):gtV x x=false:=by rw [oU];omega
theorem sI {x y z:Vn} (h1:gtV x y=true) (h2:gtV y z=true):gtV x z=true:=by rw [xM] at*;omega
theorem oX {x y z:Vn} (h1:gtV x y=false) (h2:gtV y z=false):gtV x z=false:=by rw [oU] at*;omega
end Go.Proofs.YtpfemjlhklnfoaaGreatDoor
namespace Go.Proofs.YtpfemjlhklnfoaaGreatDoor
open Go.RowKit Go.Maps Go.WideMaps
set_option maxRecDepth 100000
theorem sJ {w w':World} {M:Nat} (h:Below w.heap.size w w'):w.grownBy w' (some M):=⟨h.os,h.tape,h.output,h.size,fun k hk _=>h.block k hk⟩
theorem aO (g i:Nat) (v:Value):KeepP fun w1=>Sc.aH w1 g i v:=fun _ _ h hb=>⟨(hb.cell (p:=⟨g,i,none⟩) h.2).trans h.1,Nat.lt_of_lt_of_le h.2 hb.size⟩
end Go.Proofs.YtpfemjlhklnfoaaGreatDoor
namespace Go.Proofs.YtpfemjlhklnfoaaGreatDoor
open Go.RowKit
set_option maxRecDepth 100000
theorem AL {w:World} {N:Nat} {x y:Value} (j0:w.cell? ⟨N,0,none⟩=some x) (j1:w.cell? ⟨N,1,none⟩=some y):
 (∀ u,(w.setCell ⟨N,0,none⟩ u).cell? ⟨N,0,none⟩=some u)∧(∀ u,(w.setCell ⟨N,0,none⟩ u).cell? ⟨N,1,none⟩=some y)∧(∀ u v,((w.setCell ⟨N,0,none⟩ u).setCell ⟨N,1,none⟩ v).cell? ⟨N,0,none⟩=some u)∧(∀ u v,((w.setCell ⟨N,0,none⟩ u).setCell ⟨N,1,none⟩ v).cell? ⟨N,1,none⟩=some v):=by
 have k1:∀ u,(w.setCell ⟨N,0,none⟩ u).cell? ⟨N,1,none⟩=some y:=fun u=>(World.cell?_setCell_other _ _ _ _ (by simp)).trans j1
 have k0:∀ u,(w.setCell ⟨N,0,none⟩ u).cell? ⟨N,0,none⟩=some u:=fun u=>World.cell?_setCell_same _ _ _ j0
 exact ⟨k0,k1,fun u v=>(World.cell?_setCell_other _ _ _ _ (by simp)).trans (k0 u),fun u v=>World.cell?_setCell_same _ _ _ (k1 u)⟩
theorem oY {w w':World} {N B:Nat} {x y:Value} (hN:B≤N) (h:Below B w w'):Below B w ((w'.setCell ⟨N,0,none⟩ x).setCell ⟨N,1,none⟩ y):=(h.setCell (p:=⟨N,0,none⟩) hN _).setCell (p:=⟨N,1,none⟩) hN _
end Go.Proofs.YtpfemjlhklnfoaaGreatDoor
namespace Go.Proofs.YtpfemjlhklnfoaaGreatDoor
open Go.RowKit Go.Maps Go.WideMaps
set_option maxRecDepth 100000
theorem bP {W:World} {cs:Array Value} {t:TypeId} {N i:Nat} {v:Value} (hN:W.heap.size=N) (h:cs[i]? =some v):(W.alloc (.cells cs t)).cell? ⟨N,i,none⟩=some v∧(W.alloc (.cells cs t)).frozen? ⟨N,i,none⟩=false:=by
 subst hN
 have hb:(W.alloc (.cells cs t)).heap[W.heap.size]? =some (.cells cs t (0,0)):=by
  show (W.heap.push _)[_]? =_;rw [Array.getElem?_push,if_pos rfl]
 generalize W.alloc (.cells cs t)=W1 at*
 constructor
 · simp [World.cell?,hb,h]
 · simp [World.frozen?,hb]
def SmAt (w:World) (M n:Nat) (z:Value) (f:ByteArray→Option Value):Prop:=∃ D:DataW Value,w.ownsMap Tryz.prog 9 gQ M n D∧IsMap D∧∀ s:ByteArray,Maps.has D (fM s)=(f s).isSome∧D.atKey (fM s) (.held z)= .held ((f s).getD z)
theorem SmAt.lt {w:World} {M n:Nat} {z:Value} {f:ByteArray→Option Value} (h:SmAt w M n z f):M<w.heap.size:=by
 obtain ⟨D,h1,_⟩:=h;exact h1.lt
theorem SmAt.kept {w w':World} {M n:Nat} {z:Value} {f:ByteArray→Option Value} (h:SmAt w M n z f) {row:Option Nat} (hg:w.grownBy w' row) (hr:some M≠row):SmAt w' M n z f:=by
 obtain ⟨D,h1,h2⟩:=h;exact ⟨D,h1.kept hg hr,h2⟩
theorem SmAt.below {w w':World} {M n:Nat} {z:Value} {f:ByteArray→Option Value} (h:SmAt w M n z f) (hb:Below w.heap.size w w'):SmAt w' M n z f:=by
 have hl:=h.lt;obtain ⟨D,⟨es,cl,h1,r⟩,h2⟩:=h;exact ⟨D,⟨es,cl,(hb.block M hl).trans h1,r⟩,h2⟩
theorem SmAt.more {w:World} {M n m:Nat} {z:Value} {f:ByteArray→Option Value} (h:SmAt w M n z f) (hm:n≤m):SmAt w M m z f:=by
 obtain ⟨D,h1,h2⟩:=h;exact ⟨D,h1.mono hm,h2⟩
theorem SmAt.ext {w:World} {M n:Nat} {z:Value} {f g:ByteArray→Option Value} (h:SmAt w M n z f) (hf:∀ s,f s=g s):SmAt w M n z g:=by
 obtain ⟨D,h1,h2,h3⟩:=h;exact ⟨D,h1,h2,fun s=>by rw [←hf];exact h3 s⟩
theorem SmAt.new (w:World) (z:Value):SmAt (w.alloc (.map #[] 0)) w.heap.size 0 z fun _=>none:=
 ⟨.map [],World.ownsMap_made (H:=Value) w Tryz.prog 9 gQ,⟨[],rfl⟩,fun _=>⟨rfl,rfl⟩⟩
theorem SmAt.look2 {w:World} {M n:Nat} {z:Value} {f:ByteArray→Option Value} (h:SmAt w M n z f) {t e:TypeId} (ht:Tryz.prog.underlying t=some (.map 9 e)) (hz:(zeroValue e).run Tryz.prog w= .ok z w) {s:ByteArray} (hs:s.size≤maxLen):(Instr.lookup t (.map (some M)) (.string s) true).run Tryz.prog w= .ok (.tuple #[(f s).getD z,.bool (f s).isSome]) w:=by
 obtain ⟨D,h1,_,h2⟩:=h;obtain ⟨v,ps,hr,hv⟩:=h1.look_ok eZ ht hz (zd:= .held z) (zp:=[]) rfl (oP hs);rw [(h2 s).1] at hr;rw [(h2 s).2] at hv;rw [hr,jW hv]
theorem oZ {D:DataW Value} (h:IsMap D) (k:Lit) (d:DataW Value):IsMap (D.put k d):=by
 obtain ⟨es,rfl⟩:=h;exact ⟨_,rfl⟩
theorem SmAt.put {w:World} {M n:Nat} {z:Value} {f:ByteArray→Option Value} (h:SmAt w M n z f) {t e:TypeId} (ht:Tryz.prog.underlying t=some (.map 9 e)) (hn:n<maxLen) {s:ByteArray} (hs:s.size≤maxLen) (v:Value):∃ w',(Instr.mapUpdate t (.map (some M)) (.string s) v).run Tryz.prog w= .ok () w'∧SmAt w' M (n+1) z (fun u=>if u=s then some v else f u)∧w.grownBy w' (some M):=by
 obtain ⟨D,h1,hm,h2⟩:=h;obtain ⟨w',hr,ho,hg⟩:=h1.update eZ ht hn (oP hs) (val:=v) (d:= .held v) (ps:=[]) rfl;refine ⟨w',hr,⟨_,ho,oZ hm _ _,fun u=> ?_⟩,hg⟩;show Maps.has _ _=(if u=s then some v else f u).isSome∧DataW.atKey _ _ _= .held ((if u=s then some v else f u).getD z)
 by_cases e:u=s
 · subst e
   rw [has_put_same hm (iQ u),atKey_put_same hm (iQ u),if_pos rfl];exact ⟨rfl,rfl⟩
 · rw [has_put_other fun k=>e (iP k),atKey_put_other fun k=>e (iP k),if_neg e]
   exact h2 u
def isD (s:ByteArray) (d:Dp):Bool:=decide (d.nm=s)
def aG (O:List Dp) (s:ByteArray):Option Value:=(O.findIdx? (isD s)).map fun i:Nat=>Value.int .i64 (i:Int)
theorem gR (O:List Dp) (d:Dp) (s:ByteArray):aG (O++[d]) s=if (aG O s).isSome=true then aG O s else (if d.nm=s then some (.int .i64 O.length) else none):=by
 unfold aG;rw [List.findIdx?_append];cases h:O.findIdx? (isD s) with
 |some i=>simp
 |none=>by_cases e:d.nm=s<;>simp [isD,e]
theorem kV {O:List Dp} {d:Dp} (h:(aG O d.nm).isSome=true) (s:ByteArray):aG O s=aG (O++[d]) s:=by
 rw [gR]
 by_cases e:(aG O s).isSome=true
 · rw [if_pos e]
 · rw [if_neg e,if_neg (fun q=>e (by rw [←q];exact h))]
   cases hf:aG O s with
   |none=>rfl
   |some v=>rw [hf] at e;exact absurd rfl e
theorem pA {O:List Dp} {d:Dp} (h:(aG O d.nm).isSome=false) (s:ByteArray):(if s=d.nm then some (.int .i64 O.length) else aG O s)=aG (O++[d]) s:=by
 rw [gR]
 by_cases e:s=d.nm
 · subst e
   rw [if_pos rfl,h,if_neg (by decide),if_pos rfl]
 · rw [if_neg e]
   by_cases q:(aG O s).isSome=true
   · rw [if_pos q]
   · rw [if_neg q,if_neg (fun x=>e x.symm)]
     cases hf:aG O s with
     |none=>rfl
     |some v=>rw [hf] at q;exact absurd rfl q
theorem DepsAt.el {w:World} {v:Value} {O:List Dp} (h:DepsAt w v O):∃ ad cap,v= .slice ad O.length cap∧O.length≤cap∧∀ k (_:k<O.length),∃ g o,ad=some ⟨g,o,none⟩∧∃ au nu cu,DpIn w g (o+k*2) O[k] (.slice au nu cu):=by
 obtain ⟨ad,cap,hv,hc,hl⟩:=h;refine ⟨ad,cap,hv,hc,fun k hk=> ?_⟩
 rcases hl with e|⟨g,o,e,_,hs⟩
 · rw [e] at hk;cases hk
 · obtain ⟨u,hu⟩:=hs k hk
   obtain ⟨au,nu,cu,rfl,_⟩:=hu.2.2.1.1.2;exact ⟨g,o,e,au,nu,cu,hu⟩
set_option maxHeartbeats 6400000 in
theorem xO {w:World} {O:List Dp} {x1 x2 x3:Option Addr} {y1 y2 y3 z1 z2 z3:Nat} {v4:Value} (h:DepsAt w v4 O) (hlen:O.length≤9223372036854775807) (hn:∀ d ∈ O,d.nm.size≤9223372036854775807):Calls Tryz.prog 213 #[.agg #[.slice x1 y1 z1,.slice x2 y2 z2,.slice x3 y3 z3,v4]] w fun e w'=>e= .returned (.agg #[v4,.map (some (w.heap.size+2))])∧(∃ n,SmAt w' (w.heap.size+2) n (.int .i64 0) (aG O))∧Below w.heap.size w w':=by
 have hmm:= @run_makeMap Tryz.prog;obtain ⟨ad,cap,rfl,hcap,hel⟩:=h.el;have HEL:=aA hel;have HN:=aA hn;clear h hel hn
 go_enter Tryz.func213,Tryz.ntmps213
 have HBW:Hid (Below w.heap.size w ((((w.alloc (.cells #[.slice x1 y1 z1,.slice x2 y2 z2,.slice x3 y3 z3,.slice ad O.length cap] 57)).alloc (.cells #[.slice none 0 0,.map none] 249)).alloc (.map #[] 0)).alloc (.cells #[.slice ad O.length cap,.map (some (w.heap.size+1+1))] 249))):=aB (aB (aM _ _ _) (aD _ _)) (aD _ _)
 have HM0:Hid (SmAt ((((w.alloc (.cells #[.slice x1 y1 z1,.slice x2 y2 z2,.slice x3 y3 z3,.slice ad O.length cap] 57)).alloc (.cells #[.slice none 0 0,.map none] 249)).alloc (.map #[] 0)).alloc (.cells #[.slice ad O.length cap,.map (some (w.heap.size+1+1))] 249)) (w.heap.size+1+1) 0 (.int .i64 0) (aG (O.take 0))):=by
  have e:((w.alloc (.cells #[.slice x1 y1 z1,.slice x2 y2 z2,.slice x3 y3 z3,.slice ad O.length cap] 57)).alloc (.cells #[.slice none 0 0,.map none] 249)).heap.size=w.heap.size+1+1:=by simp
  have q:=SmAt.new ((w.alloc (.cells #[.slice x1 y1 z1,.slice x2 y2 z2,.slice x3 y3 z3,.slice ad O.length cap] 57)).alloc (.cells #[.slice none 0 0,.map none] 249)) (.int .i64 0);rw [e] at q;exact (q.below (aD _ _)).ext fun s=>rfl
 have c30:((((w.alloc (.cells #[.slice x1 y1 z1,.slice x2 y2 z2,.slice x3 y3 z3,.slice ad O.length cap] 57)).alloc (.cells #[.slice none 0 0,.map none] 249)).alloc (.map #[] 0)).alloc (.cells #[.slice ad O.length cap,.map (some (w.heap.size+1+1))] 249)).cell? ⟨w.heap.size+1+1+1,0,none⟩=some (.slice ad O.length cap):=(bP (by simp) rfl).1;have c31:((((w.alloc (.cells #[.slice x1 y1 z1,.slice x2 y2 z2,.slice x3 y3 z3,.slice ad O.length cap] 57)).alloc (.cells #[.slice none 0 0,.map none] 249)).alloc (.map #[] 0)).alloc (.cells #[.slice ad O.length cap,.map (some (w.heap.size+1+1))] 249)).cell? ⟨w.heap.size+1+1+1,1,none⟩=some (.map (some (w.heap.size+1+1))):=(bP (by simp) rfl).1
 have r0:((((w.alloc (.cells #[.slice x1 y1 z1,.slice x2 y2 z2,.slice x3 y3 z3,.slice ad O.length cap] 57)).alloc (.cells #[.slice none 0 0,.map none] 249)).alloc (.map #[] 0)).alloc (.cells #[.slice ad O.length cap,.map (some (w.heap.size+1+1))] 249)).cell? ⟨w.heap.size+1,0,none⟩=some (.slice none 0 0):=((aM _ _ _).cell (p:=⟨w.heap.size+1,0,none⟩) (by simp)).trans (bP (by simp) rfl).1;have r1:((((w.alloc (.cells #[.slice x1 y1 z1,.slice x2 y2 z2,.slice x3 y3 z3,.slice ad O.length cap] 57)).alloc (.cells #[.slice none 0 0,.map none] 249)).alloc (.map #[] 0)).alloc (.cells #[.slice ad O.length cap,.map (some (w.heap.size+1+1))] 249)).cell? ⟨w.heap.size+1,1,none⟩=some (.map none):=((aM _ _ _).cell (p:=⟨w.heap.size+1,1,none⟩) (by simp)).trans (bP (by simp) rfl).1
 have f0:((((w.alloc (.cells #[.slice x1 y1 z1,.slice x2 y2 z2,.slice x3 y3 z3,.slice ad O.length cap] 57)).alloc (.cells #[.slice none 0 0,.map none] 249)).alloc (.map #[] 0)).alloc (.cells #[.slice ad O.length cap,.map (some (w.heap.size+1+1))] 249)).frozen? ⟨w.heap.size+1,0,none⟩=false:=((aM _ _ _).frozen (p:=⟨w.heap.size+1,0,none⟩) (by simp)).trans (bP (v:= .slice none 0 0) (by simp) rfl).2;have f1:((((w.alloc (.cells #[.slice x1 y1 z1,.slice x2 y2 z2,.slice x3 y3 z3,.slice ad O.length cap] 57)).alloc (.cells #[.slice none 0 0,.map none] 249)).alloc (.map #[] 0)).alloc (.cells #[.slice ad O.length cap,.map (some (w.heap.size+1+1))] 249)).frozen? ⟨w.heap.size+1,1,none⟩=false:=((aM _ _ _).frozen (p:=⟨w.heap.size+1,1,none⟩) (by simp)).trans (bP (v:= .map none) (by simp) rfl).2
 have hsz:((((w.alloc (.cells #[.slice x1 y1 z1,.slice x2 y2 z2,.slice x3 y3 z3,.slice ad O.length cap] 57)).alloc (.cells #[.slice none 0 0,.map none] 249)).alloc (.map #[] 0)).alloc (.cells #[.slice ad O.length cap,.map (some (w.heap.size+1+1))] 249)).heap.size=w.heap.size+1+1+1+1:=by simp
 go_wp2_with fail
 generalize ((((w.alloc (.cells #[.slice x1 y1 z1,.slice x2 y2 z2,.slice x3 y3 z3,.slice ad O.length cap] 57)).alloc (.cells #[.slice none 0 0,.map none] 249)).alloc (.map #[] 0)).alloc (.cells #[.slice ad O.length cap,.map (some (w.heap.size+1+1))] 249))=W at*;obtain ⟨M,hM⟩:∃ M,M=w.heap.size+1+1:=⟨_,rfl⟩;have hM2:w.heap.size+2=M:=by rw [hM]
 rw [←hM] at HM0 c30 c31 hsz;rw [hM2]
 try rw [←hM]
 have HSZ:=aA hsz;have HMW:=aA hM;clear hM hM2 hsz
 go_loopw [15] (fun vi wr=>∃ k:Nat,k≤O.length∧vi= .int .i64 k∧SmAt wr M k (.int .i64 0) (aG (O.take k))∧W.grownBy wr (some M)) (fun vi _=>O.length - (intOf vi).toNat)
 case atStart=>exact ⟨0,Nat.zero_le _,rfl,HM0.out,⟨rfl,rfl,rfl,Nat.le_refl _,fun _ _ _=>rfl⟩⟩
 case round=>
  obtain ⟨k,hk,rfl,hsm,hgr⟩:=hrel;have HS:=aA hsm;have HG:=aA hgr;have HBR:Hid (Below w.heap.size w wr):=HBW.out.grown hgr HBW.out.size (fun j hj=>by cases hj;have:=HMW.out;omega);have d30:=(hgr.cell_far ⟨M+1,0,none⟩ (by have:=HSZ.out;simp only;omega) (fun q=>by have:=Option.some.inj q;simp only at this;omega)).trans c30;have d31:=(hgr.cell_far ⟨M+1,1,none⟩ (by have:=HSZ.out;simp only;omega) (fun q=>by have:=Option.some.inj q;simp only at this;omega)).trans c31;clear hsm hgr
  by_cases hlt:k<O.length
  · have hki:(k:Int)<(O.length:Int):=by omega
    obtain ⟨g,o,rfl,au,nu,cu,e0,e1,_,hg⟩:=HEL.out k hlt;have hnm:=HN.out _ (List.getElem_mem hlt);have HTK:Hid (O.take (k+1)=O.take k++[O[k]]):=List.take_succ_eq_append_getElem hlt;have HTL:Hid ((O.take k).length=k):=by unfold Hid;rw [List.length_take];omega
    have p0:=(HBR.out.cell (p:=⟨g,o+k*2,none⟩) hg).trans e0;have p1:=(HBR.out.cell (p:=⟨g,o+k*2+1,none⟩) hg).trans e1;generalize O[k]=d at*;have HS1:Hid (SmAt (wr.alloc (.cells #[.string d.nm,.slice au nu cu] 89)) M k (.int .i64 0) (aG (O.take k))):=HS.out.below (aD _ _);have hl:=HS1.out.look2 Tryz.underlying210 (fN _) (s:=d.nm) (by unfold maxLen;omega);have HG1:Hid (W.grownBy (wr.alloc (.cells #[.string d.nm,.slice au nu cu] 89)) (some M)):=HG.out.trans (sJ (aD _ _));have hmr:=HS.out.lt;have hd30:=((aD wr (.cells #[.string d.nm,.slice au nu cu] 89)).cell (p:=⟨M+1,0,none⟩) (by have:=HG.out.size;have:=HSZ.out;simp only;omega)).trans d30;have hd31:=((aD wr (.cells #[.string d.nm,.slice au nu cu] 89)).cell (p:=⟨M+1,1,none⟩) (by have:=HG.out.size;have:=HSZ.out;simp only;omega)).trans d31;have HT:=aA (kV (O:=O.take k) (d:=d));have HU:=aA (pA (O:=O.take k) (d:=d));rw [←HTK.out,HTL.out] at HU
    rw [←HTK.out] at HT;clear HTK HTL e0 e1;cases hf:aG (O.take k) d.nm with
    |some v=>
     rw [hf] at hl HT;simp only [Option.isSome,Option.getD] at hl;clear HU hf
     go_wp2_with fail
     exact ⟨⟨k+1,by omega,by go_num,(HS1.out.more (Nat.le_succ _)).ext (HT.out rfl),HG1.out⟩,by simp [intOf];omega⟩
    |none=>
     rw [hf] at hl HU;simp only [Option.isSome,Option.getD] at hl;obtain ⟨w2,hrun,hs2,hg2⟩:=HS1.out.put Tryz.underlying210 (by unfold maxLen;omega) (s:=d.nm) (by unfold maxLen;omega) (.int .i64 k);have HS2:=aA (hs2.ext (HU.out rfl));have HG2:=aA (HG1.out.trans hg2);clear HT hf hs2 hg2
     go_wp2_with fail
     exact ⟨⟨k+1,by omega,by go_num,HS2.out,HG2.out⟩,by simp [intOf];omega⟩
  · obtain rfl:k=O.length:=by omega
    have hki:¬ ((O.length:Int)<(O.length:Int)):=by omega
    have HSF:Hid (SmAt wr M O.length (.int .i64 0) (aG O)):=by
     have e:=HS.out;rw [List.take_length] at e;exact e
    have hne:some (w.heap.size+1)≠some M:=fun q=>by have:=Option.some.inj q;have:=HMW.out;omega
    have hwl:w.heap.size+1<W.heap.size:=by have:=HSZ.out;have:=HMW.out;omega
    have s0:=(HG.out.cell_far ⟨w.heap.size+1,0,none⟩ hwl hne).trans r0;have s1:=(HG.out.cell_far ⟨w.heap.size+1,1,none⟩ hwl hne).trans r1;have t0:=(HG.out.frozen_far ⟨w.heap.size+1,0,none⟩ hwl hne).trans f0;have t1:=(HG.out.frozen_far ⟨w.heap.size+1,1,none⟩ hwl hne).trans f1;have s2:=AL s0 s1
    have HFN:Hid (∀ u v,(∃ n,SmAt ((wr.setCell ⟨w.heap.size+1,0,none⟩ u).setCell ⟨w.heap.size+1,1,none⟩ v) M n (.int .i64 0) (aG O))∧Below w.heap.size w ((wr.setCell ⟨w.heap.size+1,0,none⟩ u).setCell ⟨w.heap.size+1,1,none⟩ v)):=fun u v=>by
     refine ⟨⟨_,HSF.out.kept (row:=some (w.heap.size+1)) ?_ (fun q=>hne q.symm)⟩,oY (by omega) HBR.out⟩;exact ⟨rfl,rfl,rfl,by simp,fun j _ hj=>(Below.heap_setCell _ _ _ j (fun e=>hj (by rw [e]))).trans (Below.heap_setCell _ _ _ j (fun e=>hj (by rw [e])))⟩
    clear HS r0 r1 f0 f1 c30 c31
    go_wp2_with fail
    all_goals try simp only [Exit.inBlock,Exit.then]
    refine bodyPost_ret (by simp [results,Tryz.results213,s2,go_sem];try rfl) rfl ?_;have e2:w.heap.size+2=M:=HMW.out.symm;rw [e2];exact ⟨rfl,(HFN.out _ _).1,(HFN.out _ _).2⟩
def bJ (O:List Dp) (d:Dp):List Sp:=match O.find? (isD d.nm) with
 |some x=>x.rg
 |none=>d.rg
theorem pB {O:List Dp} {s:ByteArray} (h:aG O s=none):O.find? (isD s)=none:=by
 unfold aG at h;rw [Option.map_eq_none_iff,List.findIdx?_eq_none_iff] at h;rw [List.find?_eq_none];exact fun x hx=>Bool.eq_false_iff.1 (h x hx)
theorem pC {O:List Dp} {s:ByteArray} {v:Value} (h:aG O s=some v):∃ i,∃ hi:i<O.length,v= .int .i64 i∧O.find? (isD s)=some O[i]:=by
 unfold aG at h;rw [Option.map_eq_some_iff] at h;obtain ⟨i,h1,h2⟩:=h;rw [List.findIdx?_eq_some_iff_getElem] at h1;obtain ⟨hi,h3,h4⟩:=h1;refine ⟨i,hi,h2.symm,?_⟩;rw [List.find?_eq_some_iff_getElem];refine ⟨h3,i,hi,rfl,fun j hj=> ?_⟩
 have:=h4 j hj
 simpa using this
set_option maxHeartbeats 3200000 in
theorem sK {w:World} {O:List Dp} {v4:Value} (h:DepsAt w v4 O) {M n:Nat} (hs:SmAt w M n (.int .i64 0) (aG O)) (d:Dp) {au:Option Addr} {nu cu:Nat} (hd:SpansC w (.slice au nu cu) d.rg) (hdl:d.rg.length≤9223372036854775807) (hn:d.nm.size≤9223372036854775807):Calls Tryz.prog 239 #[.agg #[v4,.map (some M)],.agg #[.string d.nm,.slice au nu cu]] w fun e w'=>∃ v,e= .returned v∧SpansC w' v (bJ O d)∧(bJ O d).length≤9223372036854775807∧Below w.heap.size w w':=by
 obtain ⟨ad,cap,rfl,hcap,hel⟩:=h.el;have HEL:=aA hel;have HD:=aA hd;have HS:Hid (SmAt ((w.alloc (.cells #[.slice ad O.length cap,.map (some M)] 249)).alloc (.cells #[.string d.nm,.slice au nu cu] 89)) M n (.int .i64 0) (aG O)):=hs.below (aM _ _ _);have hl:=HS.out.look2 Tryz.underlying210 (fN _) (s:=d.nm) (by unfold maxLen;omega);have HB:Hid (Below w.heap.size w ((w.alloc (.cells #[.slice ad O.length cap,.map (some M)] 249)).alloc (.cells #[.string d.nm,.slice au nu cu] 89))):=aM _ _ _;have HFN:Hid (∀ u R,SpansC w u R→SpansC ((w.alloc (.cells #[.slice ad O.length cap,.map (some M)] 249)).alloc (.cells #[.string d.nm,.slice au nu cu] 89)) u R):=fun u R hu=>⟨hu.1.below HB.out,hu.2⟩
 cases hf:aG O d.nm with
 |none=>
  have HR:Hid (bJ O d=d.rg):=by
   unfold Hid bJ;rw [pB hf]
  rw [hf] at hl;simp only [Option.isSome,Option.getD] at hl;clear hf h hel hd hs
  go_enter Tryz.func239,Tryz.ntmps239
  go_wp2_with fail
  go_ret;exact ⟨_,rfl,by rw [HR.out];exact HFN.out _ _ HD.out,by rw [HR.out];exact hdl,HB.out⟩
 |some v=>
  obtain ⟨i,hi,rfl,hx⟩:=pC hf
  have HR:Hid (bJ O d=O[i].rg):=by
   unfold Hid bJ;rw [hx]
  rw [hf] at hl;simp only [Option.isSome,Option.getD] at hl;obtain ⟨g,o,rfl,au2,nu2,cu2,e0,e1,hsp,hg⟩:=HEL.out i hi;have p1:=(HB.out.cell (p:=⟨g,o+i*2+1,none⟩) hg).trans e1;have hki:(i:Int)<(O.length:Int):=by omega
  have HSP:=aA hsp;clear hf h hel hd hs hx e0 e1 hsp
  go_enter Tryz.func239,Tryz.ntmps239
  go_wp2_with fail
  go_ret;exact ⟨_,rfl,by rw [HR.out];exact HFN.out _ _ HSP.out.1,by rw [HR.out];exact HSP.out.2,HB.out⟩
end Go.Proofs.YtpfemjlhklnfoaaGreatDoor
namespace Go.Proofs.YtpfemjlhklnfoaaGreatDoor
open Go.RowKit
set_option maxRecDepth 100000
theorem eL {B:Nat} {wx:World} {elt slt:TypeId} {z:Value} {sz bs n m c:Nat} {v:Value} {xs news:List Value} {ad:Addr} {ops:Array Oper} {rest:List Oper} {o:Oper} {f:Act} {Q:Exit→Act→World→Prop}
 (hinfo:(Tryz.prog.info? elt).map (fun i=>(i.zero,i.size,i.bytes))=some (some z,sz,bs)) (hund:Tryz.prog.underlying slt=some (.slice elt)) (hzc:z.cells.size=sz) (hsz:0<sz)
 (hgd:o.guard=none) (s t:Operand) (ho:o.op= .call { callee:= .builtin .append,args:= #[s,t],argTypes:= #[slt,slt] }) (hs:f.eval s=v)
 (hown:wx.ownsRow B elt sz v n xs) (hB:B≤wx.heap.size) (hx:f.eval t= .slice (some ad) m c) (hl:news.length=m*sz) (hnews:∀ j u,news[j]? =some u→wx.cell? (ad.add j)=some u) (hone:∀ u ∈ news,u.oneCell'=true) (hbb:(n+m)*bs≤140737488355328) (hlen:n+m≤140737488355328)
 (h:∀ v1 w1,w1.ownsRow B elt sz v1 (n+m) (xs++news)→wx.grownBy w1 v.ownBlock→(v1.ownBlock=v.ownBlock∨v1.ownBlock=some wx.heap.size)→wpList Tryz.prog ops Q rest (f.put o.dst v1) w1):
 wpList Tryz.prog ops Q (o::rest) f wx:=by
 obtain ⟨i0,hi,hz0,hz1,hz2⟩:=Sc.bN hinfo;refine wpList_append_own_at _ hgd s t slt ho B elt i0 z sz bs hund hi hz0 hz1 hz2 hzc hsz v n xs hs hown ad m c news hx hl hnews hone (by unfold maxLen;omega) hbb hB ?_;intro v1 w1 hown1 hg1 _ hat;exact h v1 w1 hown1 hg1 hat
set_option maxHeartbeats 1600000 in
theorem pD {L:List Sp} {v:Value} {w:World} (h:SpansC w v L) (hl:L.length*48≤140737488355328):Calls Tryz.prog 138 #[v] w fun e w'=>∃ v',e= .returned v'∧OwnS w' w.heap.size v' L∧Below w.heap.size w w':=by
 obtain ⟨⟨ad,cap,rfl,hc⟩,_⟩:=h;cases ad with
 |none=>
  obtain rfl:L=[]:=by
   rcases hc with e|⟨_,_,q,_⟩
   · exact e
   · cases q
  rw [List.length_nil];have q0:∀ w,(binOp .eql 39 (.slice none 0 cap) (.slice none 0 0)).run Tryz.prog w= .ok (.bool true) w:=fun w=>run_eql_slice_nil w 39 91 none 0 cap Tryz.underlying39
  go_enter Tryz.func138,Tryz.ntmps138
  go_wp2
  go_ret;exact ⟨_,rfl,OwnS.nil _ _,Below.refl _ _⟩
 |some a=>
  have HNW:Hid (∀ j u,(aU L)[j]? =some u→(w.alloc (.cells #[] 91)).cell? (a.add j)=some u):=fun j u hj=>by
   rcases hc with e|⟨g,o,q,hg,hs⟩
   · subst e;simp [aU] at hj
   · cases q
     have e:=xF hs j u hj;have e2:(⟨g,o,none⟩:Addr).add j=⟨g,o+j,none⟩:=by simp [Addr.add]
     rw [e2];exact ((aD w (.cells #[] 91)).cell (p:=⟨g,o+j,none⟩) hg).trans e
  have HRW:=aA (sA w);clear hc;have q0:∀ w,(binOp .eql 39 (.slice (some a) L.length cap) (.slice none 0 0)).run Tryz.prog w= .ok (.bool false) w:=fun w=>run_eql_slice_nil w 39 91 (some a) L.length cap Tryz.underlying39
  go_enter Tryz.func138,Tryz.ntmps138
  go_wp2_with (at_builtin;refine eL (B:=w.heap.size) (wx:=w.alloc (.cells #[] 91)) (news:=aU L) (xs:=[]) (n:=0) uB Tryz.underlying39 rfl (by decide) rfl (.tmp 5) (.tmp 6) rfl rfl HRW.out (by simp) rfl (dS L) HNW.out (zH L) (by omega) (by omega) ?_;intro v1 w1 ho hgr hat;have HO:Hid (OwnS w1 w.heap.size v1 L):=(by have e:=ho;rw [Nat.zero_add,List.nil_append] at e;exact e);have HB:Hid (Below w.heap.size w w1):=(aD w (.cells #[] 91)).trans (dV (B:=w.heap.size) hgr (fun g e=>by cases e;exact Nat.le_refl _) (by simp));clear ho hgr hat)
  go_ret;exact ⟨_,rfl,HO.out,HB.out⟩
def mP (O ds:List Dp):Prop:=ds.length≤100000000∧∀ d ∈ ds,d.nm.size≤281474976710656∧(bJ O d).length*48≤140737488355328
end Go.Proofs.YtpfemjlhklnfoaaGreatDoor
