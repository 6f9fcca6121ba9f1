/- Lo3: their declarations that are needed, laid in one text, remarks and blanks left out. -/
import Derived.Test.YtmnhnofnlcbliaaGreatDoorMg19
namespace Go.Proofs.YtmnhnofnlcbliaaGreatDoor.Lo
open Go.RowKit
open Sc (KeepP aB aG Bs ba WordsAt)
set_option maxRecDepth 100000
set_option maxHeartbeats 3200000 in
theorem tA {vw:Value} {ws:List Bs} {w:World} (hw:WordsAt w vw ws) (hz:∀ x ∈ ws,x.length≤2000000) (he:Env w):
 Calls Tryz.prog 254 #[vw] w fun e w'=>e= .returned (.tuple #[.agg #[.string (fI ws).1.nm,.int .i64 (fI ws).1.a,.int .i64 (fI ws).1.b,.int .i64 (fI ws).1.c],.bool (fI ws).2])∧Below w.heap.size w w':=by
 obtain ⟨ad,cap,rfl,hcap,hcs⟩:=hw;have HB0:Hid (Below w.heap.size w (w.alloc (.cells #[.string ⟨#[]⟩,.int .i64 0,.int .i64 0,.int .i64 0] 129))∧BxPF (w.alloc (.cells #[.string ⟨#[]⟩,.int .i64 0,.int .i64 0,.int .i64 0] 129)) w.heap.size ⟨⟨#[]⟩,0,0,0⟩):=⟨aC _ _,BxPF.new rfl ⟨⟨#[]⟩,0,0,0⟩⟩;have HKB:Hid (KeepP fun W=>Below w.heap.size w W∧BxPF W w.heap.size ⟨⟨#[]⟩,0,0,0⟩):=(aG w).and (eC _ _)
 by_cases h2:ws.length=2
 · obtain ⟨x,y,rfl⟩:∃ x y,ws=[x,y]:=by
    match ws,h2 with
    |[x,y],_=>exact ⟨x,y,rfl⟩
   obtain ⟨g,o,rfl,hg,hcs⟩:∃ g o,ad=some ⟨g,o,none⟩∧g<w.heap.size∧∀ i (h:i<[x,y].length),w.cell? ⟨g,o+i,none⟩=some (.string (ba [x,y][i])):=by
    rcases hcs with h|h
    · cases h
    · exact h
   have c0:w.cell? ⟨g,o,none⟩=some (.string (ba x)):=hcs 0 (by simp);have c1:w.cell? ⟨g,o+1,none⟩=some (.string (ba y)):=hcs 1 (by simp);have k1:=((aC w (.cells #[.string ⟨#[]⟩,.int .i64 0,.int .i64 0,.int .i64 0] 129)).cell (p:=⟨g,o+1,none⟩) hg).trans c1;have HC0:Hid (∀ W,Below w.heap.size w W→W.cell? ⟨g,o,none⟩=some (.string (ba x))):=fun W hb=>(hb.cell (p:=⟨g,o,none⟩) hg).trans c0
   have HV:Hid (∀ W,Below w.heap.size w W→Calls Tryz.prog 256 #[.string (ba y)] W fun e w'=>e= .returned (.tuple #[.agg #[.int .i64 (eS (ba y)),.int .i64 (eT (ba y)),.int .i64 (eU (ba y))],.bool (okP (ba y))])∧Below W.heap.size W w'):=fun W hb=>iX _ (by rw [Sc.mY];have:=hz y (by simp);omega) W (he.below hb)
   have e1:fI [x,y]=(⟨ba x,eS (ba y),eT (ba y),eU (ba y)⟩,okP (ba y)):=rfl;rw [e1];clear e1 hcs hz he c0 c1 h2;generalize okP (ba y)=ob at*;generalize eS (ba y)=ra at*;generalize eT (ba y)=rb at*;generalize eU (ba y)=rc at*;generalize ba y=sy at*;generalize ba x=sx at*;rw [show ([x,y]:List Bs).length=2 from rfl] at hcap ⊢
   go_enter Tryz.func254,Tryz.ntmps254
   go_wp2_with (go_at_call 256;refine (HV.out _ HB0.out.1).mono ?_;rintro e w2 ⟨rfl,ok⟩;have HB2:=aB (HKB.out _ _ HB0.out ok);clear ok)
   have HB3:=aB (HKB.out _ _ HB2.out (aC w2 (.cells #[.int .i64 ra,.int .i64 rb,.int .i64 rc] 52)));obtain ⟨⟨⟨b0,b1,b2,b3⟩,b4⟩,hfz⟩:=HB3.out.2;have f0:=hfz 0 (by decide);have f1:=hfz 1 (by decide);have f2:=hfz 2 (by decide);have f3:=hfz 3 (by decide);have d0:=HC0.out _ HB3.out.1;have v0:(w2.alloc (.cells #[.int .i64 ra,.int .i64 rb,.int .i64 rc] 52)).cell? ⟨w2.heap.size,0,none⟩=some (.int .i64 ra):=by simp
   have v1:(w2.alloc (.cells #[.int .i64 ra,.int .i64 rb,.int .i64 rc] 52)).cell? ⟨w2.heap.size,1,none⟩=some (.int .i64 rb):=by simp
   have v2:(w2.alloc (.cells #[.int .i64 ra,.int .i64 rb,.int .i64 rc] 52)).cell? ⟨w2.heap.size,2,none⟩=some (.int .i64 rc):=by simp
   have s4:=fun u0 u1 u2 u3=>set4 b0 b1 b2 b3 u0 u1 u2 u3
   clear hfz
   go_region
   all_goals go_wp2
   all_goals try simp only [Exit.inBlock,Exit.then]
   all_goals refine bodyPost_ret (by simp [results,Tryz.results254,s4,go_sem];try rfl) rfl ?_
   all_goals exact ⟨rfl,(dB (Nat.le_refl _) HB3.out.1).drew⟩
 · have e1:=Bt h2
   rw [e1];have hb:((ws.length:Int)==2)=false:=by rw [beq_eq_false_iff_ne];omega
   obtain ⟨⟨⟨b0,b1,b2,b3⟩,b4⟩,hfz⟩:=HB0.out.2;have f0:=hfz 0 (by decide);have f1:=hfz 1 (by decide);have f2:=hfz 2 (by decide);have f3:=hfz 3 (by decide);clear hfz hz hcs e1 h2
   go_enter Tryz.func254,Tryz.ntmps254
   go_wp2
   try simp only [Exit.inBlock,Exit.then]
   refine bodyPost_ret (by simp [results,Tryz.results254,go_sem];try rfl) rfl ?_;exact ⟨rfl,by first|exact dB (Nat.le_refl _) HB0.out.1|exact HB0.out.1⟩
set_option maxHeartbeats 3200000 in
theorem CX {vw:Value} {ws:List Bs} {w:World} (hw:WordsAt w vw ws) (hz:∀ x ∈ ws,x.length≤2000000) (he:Env w):
 Calls Tryz.prog 255 #[vw] w fun e w'=>e= .returned (.tuple #[.agg #[.string (nU ws).1.lb,.int .i64 (nU ws).1.to],.bool (nU ws).2])∧Below w.heap.size w w':=by
 obtain ⟨ad,cap,rfl,hcap,hcs⟩:=hw;have HB0:Hid (Below w.heap.size w (w.alloc (.cells #[.string ⟨#[]⟩,.int .i64 0] 62))∧BxEF (w.alloc (.cells #[.string ⟨#[]⟩,.int .i64 0] 62)) w.heap.size ⟨⟨#[]⟩,0⟩):=⟨aC _ _,BxEF.new rfl ⟨⟨#[]⟩,0⟩⟩;have HKB:Hid (KeepP fun W=>Below w.heap.size w W∧BxEF W w.heap.size ⟨⟨#[]⟩,0⟩):=(aG w).and (YJ _ _)
 by_cases h2:ws.length=2
 · obtain ⟨x,y,rfl⟩:∃ x y,ws=[x,y]:=by
    match ws,h2 with
    |[x,y],_=>exact ⟨x,y,rfl⟩
   obtain ⟨g,o,rfl,hg,hcs⟩:∃ g o,ad=some ⟨g,o,none⟩∧g<w.heap.size∧∀ i (h:i<[x,y].length),w.cell? ⟨g,o+i,none⟩=some (.string (ba [x,y][i])):=by
    rcases hcs with h|h
    · cases h
    · exact h
   have c0:w.cell? ⟨g,o,none⟩=some (.string (ba x)):=hcs 0 (by simp);have c1:w.cell? ⟨g,o+1,none⟩=some (.string (ba y)):=hcs 1 (by simp);have k1:=((aC w (.cells #[.string ⟨#[]⟩,.int .i64 0] 62)).cell (p:=⟨g,o+1,none⟩) hg).trans c1;have HC0:Hid (∀ W,Below w.heap.size w W→W.cell? ⟨g,o,none⟩=some (.string (ba x))):=fun W hb=>(hb.cell (p:=⟨g,o,none⟩) hg).trans c0
   have HV:Hid (∀ W,Below w.heap.size w W→Calls Tryz.prog 281 #[.string (ba y),.int .i64 127] W fun e w'=>e= .returned (.tuple #[.int .i64 (Sc.lS y 127),.bool (Sc.lT y 127)])∧Below W.heap.size W w'):=fun W hb=>by
    have:=Sc.MO (ba y) (by rw [Sc.mY];have:=hz y (by simp);omega) 127 W (he.below hb).toS
    unfold Sc.GZ at this;rw [Sc.cQ] at this;exact this
   have e1:nU [x,y]=(⟨ba x,Sc.lS y 127⟩,Sc.lT y 127):=rfl;rw [e1];clear e1 hcs hz he c0 c1 h2;generalize Sc.lT y 127=ob at*;generalize Sc.lS y 127=ra at*;generalize ba y=sy at*;generalize ba x=sx at*;rw [show ([x,y]:List Bs).length=2 from rfl] at hcap ⊢
   go_enter Tryz.func255,Tryz.ntmps255
   go_wp2_with (go_at_call 281;refine (HV.out _ HB0.out.1).mono ?_;rintro e w2 ⟨rfl,ok⟩;have HB2:=aB (HKB.out _ _ HB0.out ok);obtain ⟨⟨⟨b0,b1⟩,b4⟩,hfz⟩:=HB2.out.2;have f0:=hfz 0 (by decide);have f1:=hfz 1 (by decide);have d0:=HC0.out _ HB2.out.1;have s2:=fun u0 u1=>MW b0 b1 u0 u1;clear hfz ok)
   try simp only [Exit.inBlock,Exit.then]
   refine bodyPost_ret (by simp [results,Tryz.results255,s2,go_sem];try rfl) rfl ?_;exact ⟨rfl,fL (Nat.le_refl _) HB2.out.1⟩
 · have e1:=Bu h2
   rw [e1];have hb:((ws.length:Int)==2)=false:=by rw [beq_eq_false_iff_ne];omega
   obtain ⟨⟨⟨b0,b1⟩,b4⟩,hfz⟩:=HB0.out.2;have f0:=hfz 0 (by decide);have f1:=hfz 1 (by decide);clear hfz hz hcs e1 h2
   go_enter Tryz.func255,Tryz.ntmps255
   go_wp2
   try simp only [Exit.inBlock,Exit.then]
   refine bodyPost_ret (by simp [results,Tryz.results255,go_sem];try rfl) rfl ?_;exact ⟨rfl,by first|exact fL (Nat.le_refl _) HB0.out.1|exact HB0.out.1⟩
theorem mK {w w':World} {B:Nat} {e:TypeId} {z:Nat} {v:Value} {n:Nat} {xs:List Value} (h:w.ownsRow B e z v n xs) (hk:∀ g,v.ownBlock=some g→w'.heap[g]? =w.heap[g]?):w'.ownsRow B e z v n xs:=by
 refine ⟨h.1,?_⟩
 rcases h.2 with hn|⟨g,cap,cur,rfl,hB,hgg,r⟩
 · exact Or.inl hn
 · exact Or.inr ⟨g,cap,cur,rfl,hB,(hk g rfl).trans hgg,r⟩
theorem lI {w:World} {B B':Nat} {e e':TypeId} {z z':Nat} {v v':Value} {n n':Nat} {xs xs':List Value} (h:w.ownsRow B e z v n xs) (h':w.ownsRow B' e' z' v' n' xs') (hne:e≠e') {g:Nat} (hg:v.ownBlock=some g):v'.ownBlock≠some g:=by
 intro hg'
 rcases h.2 with ⟨rfl,_⟩|⟨g1,cap,cur,rfl,_,hgg,_⟩
 · cases hg
 · rcases h'.2 with ⟨rfl,_⟩|⟨g2,cap',cur',rfl,_,hgg',_⟩
   · cases hg'
   · cases hg
     cases hg';rw [hgg] at hgg';injection hgg' with e1
     injection e1 with _ e2 _
     exact hne e2
theorem cA {w:World} {B B':Nat} {e e':TypeId} {z z':Nat} {v v':Value} {n n':Nat} {xs xs':List Value} (h:w.ownsRow B e z v n xs) (h':w.ownsRow B' e' z' v' n' xs') (hne:e≠e'):v.ownBlock=none∨v.ownBlock≠v'.ownBlock:=by
 cases hv:v.ownBlock with
 |none=>exact Or.inl rfl
 |some g=>exact Or.inr fun e=>lI h h' hne hv e.symm
structure NV where
 nd:Nd
 vc:Value
 ve:Value
def pnC (p:Pn):List Value:=[.string p.nm,.int .i64 p.a,.int .i64 p.b,.int .i64 p.c]
def egC (e:Eg):List Value:=[.string e.lb,.int .i64 e.to]
def ndC (x:NV):List Value:=[.string x.nd.nm,.int .i64 x.nd.a,.int .i64 x.nd.b,.int .i64 x.nd.c,x.vc,x.ve]
def OwnP (w:World) (B:Nat) (v:Value) (L:List Pn):Prop:=w.ownsRow B 129 4 v L.length (L.flatMap pnC)
def OwnE (w:World) (B:Nat) (v:Value) (L:List Eg):Prop:=w.ownsRow B 62 2 v L.length (L.flatMap egC)
def Apart (a b:Value):Prop:=a.ownBlock=none∨a.ownBlock≠b.ownBlock
def RA (w:World) (B:Nat) (v:Value) (all:List NV):Prop:=
 w.ownsRow B 60 6 v all.length (all.flatMap ndC)∧∀ x ∈ all,OwnP w B x.vc x.nd.cx∧OwnE w B x.ve x.nd.ed
def LA (dn:List NV) (lt:NV):Prop:=∀ x ∈ dn,Apart lt.vc x.vc∧Apart lt.ve x.ve
theorem RA.of {w w':World} {B:Nat} {v:Value} {all:List NV} (h:RA w B v all) (hk:∀ g,B≤g→g<w.heap.size→w'.heap[g]? =w.heap[g]?):RA w' B v all:=
 ⟨mK h.1 fun g hg=>hk g (h.1.lt g hg).1 (h.1.lt g hg).2,fun x hx=>⟨mK (h.2 x hx).1 fun g hg=>hk g ((h.2 x hx).1.lt g hg).1 ((h.2 x hx).1.lt g hg).2,mK (h.2 x hx).2 fun g hg=>hk g ((h.2 x hx).2.lt g hg).1 ((h.2 x hx).2.lt g hg).2⟩⟩
theorem RA.below {w w':World} {B:Nat} {v:Value} {all:List NV} (h:RA w B v all) (hb:Below w.heap.size w w'):RA w' B v all:=h.of fun g _ hg=>hb.block g hg
def RS (R:Nat) (st:List Nd) (w:World):Prop:=(R<w.heap.size∧w.frozen? ⟨R,0,none⟩=false∧w.frozen? ⟨R,1,none⟩=false)∧
 ((st=[]∧w.cell? ⟨R,0,none⟩=some (.slice none 0 0)∧w.cell? ⟨R,1,none⟩=some (.pointer none))∨
  ∃ g cap dn lt,st=(dn++[lt]).map NV.nd∧w.cell? ⟨R,0,none⟩=some (.slice (some ⟨g,0,none⟩) (dn.length+1) cap)∧w.cell? ⟨R,1,none⟩=some (.pointer (some ⟨g,dn.length*6,none⟩))∧RA w (R+1) (.slice (some ⟨g,0,none⟩) (dn.length+1) cap) (dn++[lt])∧LA dn lt)
theorem RS.below {R:Nat} {st:List Nd} {w w':World} (h:RS R st w) (hb:Below w.heap.size w w'):RS R st w':=by
 obtain ⟨⟨h0,h1,h2⟩,h3⟩:=h;have c:∀ i,w'.cell? ⟨R,i,none⟩=w.cell? ⟨R,i,none⟩:=fun i=>hb.cell (p:=⟨R,i,none⟩) h0
 refine ⟨⟨Nat.lt_of_lt_of_le h0 hb.size,(hb.frozen (p:=⟨R,0,none⟩) h0).trans h1,(hb.frozen (p:=⟨R,1,none⟩) h0).trans h2⟩,?_⟩
 rcases h3 with ⟨e,k0,k1⟩|⟨g,cap,dn,lt,e,k0,k1,k2,k3⟩
 · exact Or.inl ⟨e,(c 0).trans k0,(c 1).trans k1⟩
 · exact Or.inr ⟨g,cap,dn,lt,e,(c 0).trans k0,(c 1).trans k1,k2.below hb,k3⟩
theorem YW:(Tryz.prog.info? 60).map (fun i=>(i.zero,i.size,i.bytes))=some (some (.agg #[.string ⟨#[]⟩,.int .i64 0,.int .i64 0,.int .i64 0,.slice none 0 0,.slice none 0 0]),6,88):=by kernel_rfl
theorem Ce:(Tryz.prog.info? 129).map (fun i=>(i.zero,i.size,i.bytes))=some (some (.agg #[.string ⟨#[]⟩,.int .i64 0,.int .i64 0,.int .i64 0]),4,40):=by kernel_rfl
theorem YX:(Tryz.prog.info? 62).map (fun i=>(i.zero,i.size,i.bytes))=some (some (.agg #[.string ⟨#[]⟩,.int .i64 0]),2,24):=by kernel_rfl
theorem xC {B:Nat} {wx:World} {elt slt:TypeId} {z:Value} {sz bs n:Nat} {v:Value} {xs:List Value} {ops:Array Oper} {o:Oper} {f:Act} {K:Act→World→Prop} {Q:Exit→Act→World→Prop} {E:Prop}
 (hinfo:(Tryz.prog.info? elt).map (fun i=>(i.zero,i.size,i.bytes))=some (some z,sz,bs)) (hund:Tryz.prog.underlying slt=some (.slice elt)) (hzc:z.cells.size=sz) (hsz:0<sz) (hbs:bs≤1000)
 (hgd:o.guard=none) (s t:Operand) (ho:o.op= .call { callee:= .builtin .append,args:= #[s,t],argTypes:= #[slt,slt] }) (hs:f.eval s=v)
 (hown:wx.ownsRow B elt sz v n xs) (hB:B≤wx.heap.size) (cs:Array Value) (hcs:cs.size=sz) (hone:∀ u ∈ cs.toList,u.oneCell'=true) {M:Nat} (hM:wx.heap.size=M) (hx:f.eval t= .slice (some ⟨M,0,none⟩) 1 1) (hlen:n≤1000000000)
 (h:∀ v1 w1,w1.ownsRow B elt sz v1 (n+1) (xs++cs.toList)→(wx.alloc (.cells cs elt)).grownBy w1 v.ownBlock→(v1.ownBlock=v.ownBlock∨v1.ownBlock=some (wx.heap.size+1))→K (f.put o.dst v1) w1):
 if Region.wanted o (yielded ops f.tmps)=true then Oper.wp Tryz.prog o f (wx.alloc (.cells cs elt)) K Q else E:=by
 have hw:Region.wanted o (yielded ops f.tmps)=true:=by simp [Region.wanted,hgd]
 rw [if_pos hw];subst hM;obtain ⟨i0,hi,hz0,hz1,hz2⟩:=Sc.bK hinfo;have hsz1:(wx.alloc (.cells cs elt)).heap.size=wx.heap.size+1:=by simp
 have hbb:(n+1)*bs≤140737488355328:=by
  have:=Nat.mul_le_mul (show n+1≤1000000001 by omega) hbs
  omega
 obtain ⟨v1,w1,hr,hown1,hg1,_,hat⟩:=run_append_own_at (P:=Tryz.prog) (wx.alloc (.cells cs elt)) B slt o.type elt i0 z sz bs hund hi hz0 hz1 hz2 hzc hsz v n xs (hown.alloc _) ⟨wx.heap.size,0,none⟩ 1 1 cs.toList (by rw [Array.length_toList,hcs,Nat.one_mul])
  (World.news_of_block (cs:=cs) (t:=elt) (fr:=(0,0)) (by show (wx.heap.push _)[wx.heap.size]? =_;rw [Array.getElem?_push,if_pos rfl])) hone (by unfold maxLen;omega) hbb (by omega)
 unfold Oper.wp execOp;simp only [ho,resolve,invoke,builtin,Sem.run_bind,Sem.run_pure,Result.andThen_ok,List.map_toArray,List.map_cons,List.map_nil,hs,hx,hr];exact h v1 w1 hown1 hg1 (by rw [hsz1] at hat;exact hat)
theorem RS.all {R:Nat} {st:List Nd} {w:World} (h:RS R st w):∃ ad cap all,st=all.map NV.nd∧w.cell? ⟨R,0,none⟩=some (.slice ad all.length cap)∧RA w (R+1) (.slice ad all.length cap) all∧∃ pv,w.cell? ⟨R,1,none⟩=some (.pointer pv):=by
 rcases h.2 with ⟨e,k0,k1⟩|⟨g,cap,dn,lt,e,k0,k1,k2,_⟩
 · exact ⟨none,0,[],e,k0,⟨⟨rfl,Or.inl ⟨rfl,rfl⟩⟩,fun x hx=>by cases hx⟩,none,k1⟩
 · exact ⟨some ⟨g,0,none⟩,cap,dn++[lt],e,by rw [k0];simp,by simpa using k2,_,k1⟩
theorem RS.begun {R:Nat} {w w1:World} {ad:Option Addr} {cap g cap1:Nat} {all:List NV} {nm:ByteArray} {a b c:Int} (hR:R<w.heap.size) (hf0:w.frozen? ⟨R,0,none⟩=false) (hf1:w.frozen? ⟨R,1,none⟩=false) {pv:Option Addr} (hp:w.cell? ⟨R,1,none⟩=some (.pointer pv)) (h0:w.cell? ⟨R,0,none⟩=some (.slice ad all.length cap)) (h:RA w (R+1) (.slice ad all.length cap) all)
 (ho:w1.ownsRow (R+1) 60 6 (.slice (some ⟨g,0,none⟩) (all.length+1) cap1) (all.length+1) (all.flatMap ndC++ndC ⟨⟨nm,a,b,c,[],[]⟩,.slice none 0 0,.slice none 0 0⟩)) (hg:w.grownBy w1 (Value.slice ad all.length cap).ownBlock):
 (w1.cell? ⟨R,0,none⟩=some (.slice ad all.length cap)∧w1.frozen? ⟨R,0,none⟩=false∧w1.cell? ⟨R,1,none⟩=some (.pointer pv)∧w1.frozen? ⟨R,1,none⟩=false)∧
 RS R (all.map NV.nd++[⟨nm,a,b,c,[],[]⟩]) ((w1.setCell ⟨R,0,none⟩ (.slice (some ⟨g,0,none⟩) (all.length+1) cap1)).setCell ⟨R,1,none⟩ (.pointer (some ⟨g,all.length*6,none⟩)))∧Below R w ((w1.setCell ⟨R,0,none⟩ (.slice (some ⟨g,0,none⟩) (all.length+1) cap1)).setCell ⟨R,1,none⟩ (.pointer (some ⟨g,all.length*6,none⟩))):=by
 have hne:(Value.slice ad all.length cap).ownBlock≠some R:=fun e=>by have:=(h.1.lt _ e).1;omega
 have hbk:=hg.block R hR (fun e=>hne e.symm);have c0:∀ i,w1.cell? ⟨R,i,none⟩=w.cell? ⟨R,i,none⟩:=fun i=>World.cell?_of_block hbk
 have z0:∀ i,w1.frozen? ⟨R,i,none⟩=w.frozen? ⟨R,i,none⟩:=fun i=>World.frozen?_of_block hbk
 have hRA:RA w1 (R+1) (.slice (some ⟨g,0,none⟩) (all.length+1) cap1) (all++[⟨⟨nm,a,b,c,[],[]⟩,.slice none 0 0,.slice none 0 0⟩]):=by
  refine ⟨?_,fun x hx=> ?_⟩
  · rw [List.length_append,List.flatMap_append]
    simpa using ho
  · rcases List.mem_append.1 hx with hx|hx
    · exact ⟨(h.2 x hx).1.kept hg (cA (h.2 x hx).1 h.1 (by decide)),(h.2 x hx).2.kept hg (cA (h.2 x hx).2 h.1 (by decide))⟩
    · obtain rfl:=List.mem_singleton.1 hx
      exact ⟨⟨rfl,Or.inl ⟨rfl,rfl⟩⟩,⟨rfl,Or.inl ⟨rfl,rfl⟩⟩⟩
 have hR1:R<w1.heap.size:=Nat.lt_of_lt_of_le hR hg.size;refine ⟨⟨(c0 0).trans h0,(z0 0).trans hf0,(c0 1).trans hp,(z0 1).trans hf1⟩,⟨⟨by simpa using hR1,by rw [World.frozen?_setCell,World.frozen?_setCell];exact (z0 0).trans hf0,by rw [World.frozen?_setCell,World.frozen?_setCell];exact (z0 1).trans hf1⟩,Or.inr ⟨g,cap1,all,⟨⟨nm,a,b,c,[],[]⟩,.slice none 0 0,.slice none 0 0⟩,by simp,?_,?_,?_,fun x _=>⟨Or.inl rfl,Or.inl rfl⟩⟩⟩,?_⟩
 · exact aJ (by decide) (World.cell?_setCell_same _ _ _ ((c0 0).trans h0))
 · exact World.cell?_setCell_same _ _ _ (aJ (by decide) ((c0 1).trans hp))
 · exact hRA.of fun k hk _=>(Below.heap_setCell _ _ _ _ (by simp only;omega)).trans (Below.heap_setCell _ _ _ _ (by simp only;omega))
 · have hb:Below R w w1:=⟨hg.os,hg.tape,hg.output,hg.size,fun k hk=>hg.block k (by omega) (fun e=>by have:=(h.1.lt _ e.symm).1;omega)⟩
   exact (hb.setCell (p:=⟨R,0,none⟩) (Nat.le_refl _) _).setCell (p:=⟨R,1,none⟩) (Nat.le_refl _) _
theorem sB {w w' w1:World} {row:Option Nat} (hb:Below w.heap.size w w') (hg:w'.grownBy w1 row):w.grownBy w1 row:=
 ⟨hg.os.trans hb.os,hg.tape.trans hb.tape,hg.output.trans hb.output,Nat.le_trans hb.size hg.size,fun k hk hn=>(hg.block k (Nat.lt_of_lt_of_le hk hb.size) hn).trans (hb.block k hk)⟩
set_option maxHeartbeats 6400000 in
theorem AP {R:Nat} {st:List Nd} {w:World} (h:RS R st w) (hlen:st.length≤1000000) (nm:ByteArray) (a b c:Int):
 Calls Tryz.prog 253 #[.pointer (some ⟨R,0,none⟩),.agg #[.string nm,.int .i64 a,.int .i64 b,.int .i64 c,.slice none 0 0,.slice none 0 0]] w fun e w'=>e= .returned (.tuple #[])∧RS R (st++[⟨nm,a,b,c,[],[]⟩]) w'∧Below R w w':=by
 have hbox:=aC w (.cells #[.string nm,.int .i64 a,.int .i64 b,.int .i64 c,.slice none 0 0,.slice none 0 0] 60);have h1:=h.below hbox;have hR0:=h.1.1;have HBX:=aB hbox;obtain ⟨ad,cap,all,rfl,k0,k2,pv,k1⟩:=h1.all;obtain ⟨⟨hR,hf0,hf1⟩,_⟩:=h1;have HRA:=aB k2;rw [List.length_map] at hlen;have HBG:=aB (fun w1 g cap1 ho hg=>RS.begun (nm:=nm) (a:=a) (b:=b) (c:=c) (w1:=w1) (g:=g) (cap1:=cap1) hR hf0 hf1 k1 k0 k2 ho hg);clear h hbox k2;have k0d:(w.alloc (.cells #[.string nm,.int .i64 a,.int .i64 b,.int .i64 c,.slice none 0 0,.slice none 0 0] 60)).drew.cell? ⟨R,0,none⟩=some (.slice ad all.length cap):=k0
 go_enter Tryz.func253,Tryz.ntmps253
 go_wp2_with fail
 go_region_law ((refine xC (B:=R+1) (M:=w.heap.size+1) (wx:=(w.alloc (.cells #[.string nm,.int .i64 a,.int .i64 b,.int .i64 c,.slice none 0 0,.slice none 0 0] 60)).drew) (v:= .slice ad all.length cap) YW Tryz.underlying25 rfl (by decide) (by decide) rfl (.tmp 8) (.tmp 10) rfl rfl HRA.out.1.drew hR #[.string nm,.int .i64 a,.int .i64 b,.int .i64 c,.slice none 0 0,.slice none 0 0] rfl (by simp [Value.oneCell']) (by simp) rfl (by omega) ?_);intro v1 w1 ho hg _;obtain ⟨g1,cap1,rfl,_⟩:=ho.form (by omega);have HB1:=aB (HBG.out w1 g1 cap1 ho (sB (aA (Below.refl _ _).drew (aC _ _)) hg));obtain ⟨⟨n0,n1,n2,n3⟩,_,_⟩:=HB1.out;clear ho hg)
 all_goals
  have m0:(w1.setCell ⟨R,0,none⟩ (.slice (some ⟨g1,0,none⟩) (all.length+1) cap1)).cell? ⟨R,0,none⟩=some (.slice (some ⟨g1,0,none⟩) (all.length+1) cap1):=World.cell?_setCell_same _ _ _ n0;have m1:(w1.setCell ⟨R,0,none⟩ (.slice (some ⟨g1,0,none⟩) (all.length+1) cap1)).cell? ⟨R,1,none⟩=some (.pointer pv):=aJ (by decide) n2;have m2:(w1.setCell ⟨R,0,none⟩ (.slice (some ⟨g1,0,none⟩) (all.length+1) cap1)).frozen? ⟨R,1,none⟩=false:=by rw [World.frozen?_setCell];exact n3
  have m3:((w1.setCell ⟨R,0,none⟩ (.slice (some ⟨g1,0,none⟩) (all.length+1) cap1)).setCell ⟨R,1,none⟩ (.pointer (some ⟨g1,all.length*6,none⟩))).drew.cell? ⟨R,0,none⟩=some (.slice (some ⟨g1,0,none⟩) (all.length+1) cap1):=aJ (w:=w1.setCell ⟨R,0,none⟩ _) (by decide) m0;have hw1:IntKind.i64.wrap ((all.length:Int)+1 - 1)=(all.length:Int):=by rw [IntKind.wrap_i64]<;>omega
  have hw2:IntKind.i64.wrap (all.length:Int)=(all.length:Int):=by rw [IntKind.wrap_i64]<;>omega
  have hb3:all.length<all.length+1:=by omega
  have hb1:(0:Int)≤(all.length:Int):=by omega
  have hb2:(all.length:Int)<(all.length:Int)+1:=by omega
  have HWX:Hid (Below R w (w.alloc (.cells #[.string nm,.int .i64 a,.int .i64 b,.int .i64 c,.slice none 0 0,.slice none 0 0] 60))):=HBX.out.mono (Nat.le_of_lt hR0)
  go_wp2_with fail
  go_region_held3 (fun w'=>w'.cell? ⟨R,0,none⟩=some (.slice (some ⟨g1,0,none⟩) (all.length+1) cap1)) (go_keep) (fail)
  all_goals go_wp2
  all_goals go_end0
  all_goals exact ⟨rfl,HB1.out.2.1.below (Below.refl _ _).drew,HWX.out.trans HB1.out.2.2.drew⟩
def iA (f:Nd→Nd):List Nd→List Nd
 |[]=>[]
 |[l]=>[f l]
 |x::y::r=>x::iA f (y::r)
theorem dX (f:Nd→Nd) (l:Nd):∀ dn:List Nd,iA f (dn++[l])=dn++[f l]
 |[]=>rfl
 |[x]=>rfl
 |x::y::r=>by
  have:=dX f l (y::r)
  simp only [List.cons_append] at this ⊢;unfold iA;rw [this]
def oX (p:Pn) (n:Nd):Nd:=⟨n.nm,n.a,n.b,n.c,n.cx++[p],n.ed⟩
def oY (e:Eg) (n:Nd):Nd:=⟨n.nm,n.a,n.b,n.c,n.cx,n.ed++[e]⟩
def YY (st:List Nd):List Eg:=match st.getLast? with
 |some n=>n.ed
 |none=>[]
theorem oZ (dn:List Nd) (l:Nd):YY (dn++[l])=l.ed:=by unfold YY;simp
theorem mR:∀ dn:List NV,(dn.flatMap ndC).length=dn.length*6
 |[]=>rfl
 |x::r=>by
  rw [List.flatMap_cons,List.length_append,mR r,List.length_cons];show 6+r.length*6=_;omega
theorem IX (dn:List NV) (lt:NV) (i:Nat) (u:Value):((dn++[lt]).flatMap ndC).set (dn.length*6+i) u=dn.flatMap ndC++(ndC lt).set i u:=by
 rw [List.flatMap_append,List.set_append_right _ _ (by rw [mR];omega),mR,Nat.add_sub_cancel_left]
 simp
theorem lC (dn:List NV) (lt:NV) (i:Nat):((dn++[lt]).flatMap ndC)[dn.length*6+i]? =(ndC lt)[i]? :=by
 rw [List.flatMap_append,List.getElem?_append_right (by rw [mR];omega),mR,Nat.add_sub_cancel_left]
 simp
theorem Apart.back {a b:Value} (h:Apart a b):b.ownBlock=none∨b.ownBlock≠a.ownBlock:=by
 rcases h with h|h
 · cases hb:b.ownBlock with
   |none=>exact Or.inl rfl
   |some k=>exact Or.inr (by rw [h];simp)
 · exact Or.inr (fun e=>h e.symm)
theorem RS.pinned {R:Nat} {w w1:World} {g cap:Nat} {dn:List NV} {lt:NV} {p:Pn} {v1:Value} (hR:R<w.heap.size) (hf0:w.frozen? ⟨R,0,none⟩=false) (hf1:w.frozen? ⟨R,1,none⟩=false) (h0:w.cell? ⟨R,0,none⟩=some (.slice (some ⟨g,0,none⟩) (dn.length+1) cap)) (h1:w.cell? ⟨R,1,none⟩=some (.pointer (some ⟨g,dn.length*6,none⟩)))
 (h:RA w (R+1) (.slice (some ⟨g,0,none⟩) (dn.length+1) cap) (dn++[lt])) (hA:LA dn lt) (ho:w1.ownsRow (R+1) 129 4 v1 (lt.nd.cx.length+1) (lt.nd.cx.flatMap pnC++pnC p)) (hg:w.grownBy w1 lt.vc.ownBlock) (hat:v1.ownBlock=lt.vc.ownBlock∨∃ k,v1.ownBlock=some k∧w.heap.size≤k):
 (w1.cell? ⟨R,1,none⟩=some (.pointer (some ⟨g,dn.length*6,none⟩))∧w1.cell? ⟨g,dn.length*6+4,none⟩=some lt.vc∧w1.frozen? ⟨g,dn.length*6+4,none⟩=false)∧
 RS R (dn.map NV.nd++[oX p lt.nd]) (w1.setCell ⟨g,dn.length*6+4,none⟩ v1)∧Below R w (w1.setCell ⟨g,dn.length*6+4,none⟩ v1):=by
 have hlt:=h.2 lt (by simp);have hn:(dn++[lt]).length=dn.length+1:=by simp
 have hrow:=h.1;rw [hn] at hrow;have hgk:=hrow.lt g rfl;have hneR:∀ {e:TypeId} {z:Nat} {v:Value} {n:Nat} {xs:List Value},w.ownsRow (R+1) e z v n xs→v.ownBlock≠some R:=fun hv e=>by have:=(hv.lt _ e).1;omega
 have hbk:=hg.block R hR (fun e=>hneR hlt.1 e.symm);have c0:∀ i,w1.cell? ⟨R,i,none⟩=w.cell? ⟨R,i,none⟩:=fun i=>World.cell?_of_block hbk
 have z0:∀ i,w1.frozen? ⟨R,i,none⟩=w.frozen? ⟨R,i,none⟩:=fun i=>World.frozen?_of_block hbk
 have hrow1:=hrow.kept hg (cA hrow hlt.1 (by decide));have hst:=hrow1.stored (dn.length*6+4) v1;have hgR:g≠R:=by omega
 have far:∀ {e:TypeId} {z:Nat} {v:Value} {n:Nat} {xs:List Value},w1.ownsRow (R+1) e z v n xs→e≠60→(w1.setCell ⟨g,dn.length*6+4,none⟩ v1).ownsRow (R+1) e z v n xs:=fun hv hne=>ownsRow_setCell_other (a:=⟨g,dn.length*6+4,none⟩) hv (fun e=>lI hrow1 hv (fun q=>hne q.symm) rfl e) _
 have hcell:w1.cell? ⟨g,dn.length*6+4,none⟩=some lt.vc:=by
  rw [hrow1.cellAt (dn.length*6+4) (by omega),lC];rfl
 have hRA:RA (w1.setCell ⟨g,dn.length*6+4,none⟩ v1) (R+1) (.slice (some ⟨g,0,none⟩) (dn.length+1) cap) (dn++[⟨oX p lt.nd,v1,lt.ve⟩]):=by
  refine ⟨?_,fun x hx=> ?_⟩
  · have e:=hst.1
    rw [IX,show (ndC lt).set 4 v1=ndC ⟨oX p lt.nd,v1,lt.ve⟩ from rfl] at e;rw [List.length_append,List.flatMap_append]
    simpa using e
  · rcases List.mem_append.1 hx with hx|hx
    · have hx2:=h.2 x (by simp [hx])
      exact ⟨far (hx2.1.kept hg (hA x hx).1.back) (by decide),far (hx2.2.kept hg (cA hx2.2 hlt.1 (by decide))) (by decide)⟩
    · obtain rfl:=List.mem_singleton.1 hx
      refine ⟨?_,far (hlt.2.kept hg (cA hlt.2 hlt.1 (by decide))) (by decide)⟩;unfold OwnP;simp only [oX,List.length_append,List.length_singleton,List.flatMap_append,List.flatMap_singleton];exact far ho (by decide)
 have hLA:LA dn ⟨oX p lt.nd,v1,lt.ve⟩:=fun x hx=>by
  refine ⟨?_,(hA x hx).2⟩
  rcases hat with e|⟨k,e,hk⟩
  · unfold Apart
    simp only
    rw [e];exact (hA x hx).1
  · refine Or.inr fun e2=> ?_
    simp only at e2
    rw [e] at e2
    have:=((h.2 x (by simp [hx])).1.lt k e2.symm).2
    omega
 have hR1:R<w1.heap.size:=Nat.lt_of_lt_of_le hR hg.size;have far0:∀ i,(w1.setCell ⟨g,dn.length*6+4,none⟩ v1).cell? ⟨R,i,none⟩=w1.cell? ⟨R,i,none⟩:=fun i=>World.cell?_setCell_other _ _ _ _ (fun e=>by cases e;exact hgR rfl)
 refine ⟨⟨(c0 1).trans h1,hcell,hrow1.frozenAt _⟩,⟨⟨by simpa using hR1,by rw [World.frozen?_setCell];exact (z0 0).trans hf0,by rw [World.frozen?_setCell];exact (z0 1).trans hf1⟩,Or.inr ⟨g,cap,dn,⟨oX p lt.nd,v1,lt.ve⟩,by simp,(far0 0).trans ((c0 0).trans h0),(far0 1).trans ((c0 1).trans h1),hRA,hLA⟩⟩,?_⟩;have hb:Below R w w1:=⟨hg.os,hg.tape,hg.output,hg.size,fun k hk=>hg.block k (by omega) (fun e=>by have:=(hlt.1.lt _ e.symm).1;omega)⟩;exact hb.setCell (p:=⟨g,dn.length*6+4,none⟩) (by simp only;omega) _
theorem RS.edged {R:Nat} {w w1:World} {g cap:Nat} {dn:List NV} {lt:NV} {p:Eg} {v1:Value} (hR:R<w.heap.size) (hf0:w.frozen? ⟨R,0,none⟩=false) (hf1:w.frozen? ⟨R,1,none⟩=false) (h0:w.cell? ⟨R,0,none⟩=some (.slice (some ⟨g,0,none⟩) (dn.length+1) cap)) (h1:w.cell? ⟨R,1,none⟩=some (.pointer (some ⟨g,dn.length*6,none⟩)))
 (h:RA w (R+1) (.slice (some ⟨g,0,none⟩) (dn.length+1) cap) (dn++[lt])) (hA:LA dn lt) (ho:w1.ownsRow (R+1) 62 2 v1 (lt.nd.ed.length+1) (lt.nd.ed.flatMap egC++egC p)) (hg:w.grownBy w1 lt.ve.ownBlock) (hat:v1.ownBlock=lt.ve.ownBlock∨∃ k,v1.ownBlock=some k∧w.heap.size≤k):
 (w1.cell? ⟨R,1,none⟩=some (.pointer (some ⟨g,dn.length*6,none⟩))∧w1.cell? ⟨g,dn.length*6+5,none⟩=some lt.ve∧w1.frozen? ⟨g,dn.length*6+5,none⟩=false)∧
 RS R (dn.map NV.nd++[oY p lt.nd]) (w1.setCell ⟨g,dn.length*6+5,none⟩ v1)∧Below R w (w1.setCell ⟨g,dn.length*6+5,none⟩ v1):=by
 have hlt:=h.2 lt (by simp);have hn:(dn++[lt]).length=dn.length+1:=by simp
 have hrow:=h.1;rw [hn] at hrow;have hgk:=hrow.lt g rfl;have hneR:∀ {e:TypeId} {z:Nat} {v:Value} {n:Nat} {xs:List Value},w.ownsRow (R+1) e z v n xs→v.ownBlock≠some R:=fun hv e=>by have:=(hv.lt _ e).1;omega
 have hbk:=hg.block R hR (fun e=>hneR hlt.2 e.symm);have c0:∀ i,w1.cell? ⟨R,i,none⟩=w.cell? ⟨R,i,none⟩:=fun i=>World.cell?_of_block hbk
 have z0:∀ i,w1.frozen? ⟨R,i,none⟩=w.frozen? ⟨R,i,none⟩:=fun i=>World.frozen?_of_block hbk
 have hrow1:=hrow.kept hg (cA hrow hlt.2 (by decide));have hst:=hrow1.stored (dn.length*6+5) v1;have hgR:g≠R:=by omega
 have far:∀ {e:TypeId} {z:Nat} {v:Value} {n:Nat} {xs:List Value},w1.ownsRow (R+1) e z v n xs→e≠60→(w1.setCell ⟨g,dn.length*6+5,none⟩ v1).ownsRow (R+1) e z v n xs:=fun hv hne=>ownsRow_setCell_other (a:=⟨g,dn.length*6+5,none⟩) hv (fun e=>lI hrow1 hv (fun q=>hne q.symm) rfl e) _
 have hcell:w1.cell? ⟨g,dn.length*6+5,none⟩=some lt.ve:=by
  rw [hrow1.cellAt (dn.length*6+5) (by omega),lC];rfl
 have hRA:RA (w1.setCell ⟨g,dn.length*6+5,none⟩ v1) (R+1) (.slice (some ⟨g,0,none⟩) (dn.length+1) cap) (dn++[⟨oY p lt.nd,lt.vc,v1⟩]):=by
  refine ⟨?_,fun x hx=> ?_⟩
  · have e:=hst.1
    rw [IX,show (ndC lt).set 5 v1=ndC ⟨oY p lt.nd,lt.vc,v1⟩ from rfl] at e;rw [List.length_append,List.flatMap_append]
    simpa using e
  · rcases List.mem_append.1 hx with hx|hx
    · have hx2:=h.2 x (by simp [hx])
      exact ⟨far (hx2.1.kept hg (cA hx2.1 hlt.2 (by decide))) (by decide),far (hx2.2.kept hg (hA x hx).2.back) (by decide)⟩
    · obtain rfl:=List.mem_singleton.1 hx
      refine ⟨far (hlt.1.kept hg (cA hlt.1 hlt.2 (by decide))) (by decide),?_⟩;unfold OwnE;simp only [oY,List.length_append,List.length_singleton,List.flatMap_append,List.flatMap_singleton];exact far ho (by decide)
 have hLA:LA dn ⟨oY p lt.nd,lt.vc,v1⟩:=fun x hx=>by
  refine ⟨(hA x hx).1,?_⟩
  rcases hat with e|⟨k,e,hk⟩
  · unfold Apart
    simp only
    rw [e];exact (hA x hx).2
  · refine Or.inr fun e2=> ?_
    simp only at e2
    rw [e] at e2
    have:=((h.2 x (by simp [hx])).2.lt k e2.symm).2
    omega
 have hR1:R<w1.heap.size:=Nat.lt_of_lt_of_le hR hg.size;have far0:∀ i,(w1.setCell ⟨g,dn.length*6+5,none⟩ v1).cell? ⟨R,i,none⟩=w1.cell? ⟨R,i,none⟩:=fun i=>World.cell?_setCell_other _ _ _ _ (fun e=>by cases e;exact hgR rfl)
 refine ⟨⟨(c0 1).trans h1,hcell,hrow1.frozenAt _⟩,⟨⟨by simpa using hR1,by rw [World.frozen?_setCell];exact (z0 0).trans hf0,by rw [World.frozen?_setCell];exact (z0 1).trans hf1⟩,Or.inr ⟨g,cap,dn,⟨oY p lt.nd,lt.vc,v1⟩,by simp,(far0 0).trans ((c0 0).trans h0),(far0 1).trans ((c0 1).trans h1),hRA,hLA⟩⟩,?_⟩;have hb:Below R w w1:=⟨hg.os,hg.tape,hg.output,hg.size,fun k hk=>hg.block k (by omega) (fun e=>by have:=(hlt.2.lt _ e.symm).1;omega)⟩;exact hb.setCell (p:=⟨g,dn.length*6+5,none⟩) (by simp only;omega) _
def TakeQ (R:Nat) (w:World) (r:Option (List Nd)) (e:Ending) (w':World):Prop:=Below R w w'∧((∃ st,r=some st∧e= .returned (.bool true)∧RS R st w')∨(r=none∧e= .returned (.bool false)))
def nd0:Nd:=⟨⟨#[]⟩,0,0,0,[],[]⟩
def gJ (st:List Nd) (ws:List Bs):Option (List Nd):=if ws=[] then some (st++[nd0]) else none
def fC (st:List Nd) (ws:List Bs):Option (List Nd):=if (fI ws).2=true then some (st++[⟨(fI ws).1.nm,(fI ws).1.a,(fI ws).1.b,(fI ws).1.c,[],[]⟩]) else none
def iI (st:List Nd) (ws:List Bs):Option (List Nd):=if (fI ws).2=true∧YY st=[] then some (iA (oX (fI ws).1) st) else none
def eQ (st:List Nd) (ws:List Bs):Option (List Nd):=if (nU ws).2=true then some (iA (oY (nU ws).1) st) else none
theorem TakeQ.no {R:Nat} {w w':World} {r:Option (List Nd)} (h:r=none) (hb:Below R w w'):TakeQ R w r (.returned (.bool false)) w':=⟨hb,Or.inr ⟨h,rfl⟩⟩
theorem TakeQ.yes {R:Nat} {w w':World} {r:Option (List Nd)} {st:List Nd} (h:r=some st) (hb:Below R w w') (hs:RS R st w'):TakeQ R w r (.returned (.bool true)) w':=⟨hb,Or.inl ⟨st,h,rfl,hs⟩⟩
theorem RS.low {R:Nat} {st:List Nd} {w w':World} (h:RS R st w) (hb:Below w.heap.size w w'):Below R w w':=hb.mono (Nat.le_of_lt h.1.1)
set_option maxHeartbeats 3200000 in
theorem yM {R:Nat} {st:List Nd} {w:World} {vw:Value} {ws:List Bs} (h:RS R st w) (hlen:st.length≤1000000) (hw:WordsAt w vw ws):Calls Tryz.prog 225 #[.pointer (some ⟨R,0,none⟩),vw] w (TakeQ R w (gJ st ws)):=by
 obtain ⟨ad,cap,rfl,_,_⟩:=hw;have HBG:Hid (Calls Tryz.prog 253 #[.pointer (some ⟨R,0,none⟩),.agg #[.string ⟨#[]⟩,.int .i64 0,.int .i64 0,.int .i64 0,.slice none 0 0,.slice none 0 0]] w fun e w'=>e= .returned (.tuple #[])∧RS R (st++[nd0]) w'∧Below R w w'):=AP h hlen _ _ _ _
 by_cases h0:ws=[]
 · subst h0
   have HQ:Hid (∀ w',RS R (st++[nd0]) w'→Below R w w'→TakeQ R w (gJ st []) (.returned (.bool true)) w'):=fun w' hs hb=>TakeQ.yes (by unfold gJ;rw [if_pos rfl]) hb hs
   generalize TakeQ R w (gJ st [])=QQ at*;rw [List.length_nil]
   go_enter Tryz.func225,Tryz.ntmps225
   go_wp2_with (go_at_call 253;refine HBG.out.mono ?_;rintro e w1 ⟨rfl,hs,hb⟩)
   exact HQ.out _ hs hb
 · have HQ:Hid (TakeQ R w (gJ st ws) (.returned (.bool false)) w):=TakeQ.no (by unfold gJ;rw [if_neg h0]) (Below.refl _ _)
   have hb:((ws.length:Int)==0)=false:=by
    rw [beq_eq_false_iff_ne]
    have:ws.length≠0:=fun e=>h0 (List.eq_nil_of_length_eq_zero e)
    omega
   generalize TakeQ R w (gJ st ws)=QQ at*;clear h0
   go_enter Tryz.func225,Tryz.ntmps225
   go_wp2
   exact HQ.out
set_option maxHeartbeats 3200000 in
theorem yN {R:Nat} {st:List Nd} {w:World} {vw:Value} {ws:List Bs} (h:RS R st w) (hlen:st.length≤1000000) (hw:WordsAt w vw ws) (hz:∀ x ∈ ws,x.length≤2000000) (he:Env w):Calls Tryz.prog 226 #[.pointer (some ⟨R,0,none⟩),vw] w (TakeQ R w (fC st ws)):=by
 have HRP:=aB (tA hw hz he);have HBG:Hid (∀ W p,Below w.heap.size w W→Calls Tryz.prog 253 #[.pointer (some ⟨R,0,none⟩),.agg #[.string p.nm,.int .i64 p.a,.int .i64 p.b,.int .i64 p.c,.slice none 0 0,.slice none 0 0]] W fun e w'=>e= .returned (.tuple #[])∧RS R (st++[⟨Pn.nm p,p.a,p.b,p.c,[],[]⟩]) w'∧Below R W w'):=fun W p hb=>AP (h.below hb) hlen _ _ _ _
 have HLO:Hid (∀ W,Below w.heap.size w W→Below R w W):=fun W hb=>h.low hb
 have HL:Hid (fC st ws=if (fI ws).2=true then some (st++[⟨(fI ws).1.nm,(fI ws).1.a,(fI ws).1.b,(fI ws).1.c,[],[]⟩]) else none):=rfl;have HYE:Hid (∀ st' w',fC st ws=some st'→RS R st' w'→Below R w w'→TakeQ R w (fC st ws) (.returned (.bool true)) w'):=fun st' w' e hs hb=>TakeQ.yes e hb hs
 have HNO:Hid (∀ w',fC st ws=none→Below R w w'→TakeQ R w (fC st ws) (.returned (.bool false)) w'):=fun w' e hb=>TakeQ.no e hb
 obtain ⟨ad,cap,rfl,_,_⟩:=hw;generalize TakeQ R w (fC st ws)=QQ at*;generalize fC st ws=LR at*;generalize (fI ws).2=ok at*;generalize (fI ws).1=p at*;clear h hz he;cases ok
 · go_enter Tryz.func226,Tryz.ntmps226
   go_wp2_with (go_at_call 254;refine HRP.out.mono ?_;rintro e w1 ⟨rfl,hb⟩;have HB1:=aB (aA hb (aC w1 (.cells #[.string p.nm,.int .i64 p.a,.int .i64 p.b,.int .i64 p.c] 129)));clear hb)
   exact HNO.out _ (by rw [HL.out];rfl) (HLO.out _ HB1.out)
 · go_enter Tryz.func226,Tryz.ntmps226
   go_wp2_with (first
    |(go_at_call 254;refine HRP.out.mono ?_;rintro e w1 ⟨rfl,hb⟩;have HB1:=aB (aA hb (aC w1 (.cells #[.string p.nm,.int .i64 p.a,.int .i64 p.b,.int .i64 p.c] 129)));clear hb)
    |(go_at_call 253;refine (HBG.out _ p HB1.out).mono ?_;rintro e w2 ⟨rfl,hs,hb2⟩))
   exact HYE.out _ _ HL.out hs ((HLO.out _ HB1.out).trans hb2)
end Go.Proofs.YtmnhnofnlcbliaaGreatDoor.Lo
