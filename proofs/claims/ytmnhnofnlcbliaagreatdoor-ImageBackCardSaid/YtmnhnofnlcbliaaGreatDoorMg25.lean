/- Lo4: their declarations that are needed, laid in one text, remarks and blanks left out. -/
import Derived.Test.YtmnhnofnlcbliaaGreatDoorMg24
namespace Go.Proofs.YtmnhnofnlcbliaaGreatDoor.Lo
open Go.RowKit
open Sc (KeepP aB aG Bs ba WordsAt)
set_option maxRecDepth 100000
open Sc (KeepP aB aG Bs ba WordsAt LinesAt isL)
set_option maxHeartbeats 12800000 in
theorem IY {R:Nat} {st:List Nd} {w:World} {vw:Value} {ws:List Bs} (h:RS R st w) (hne:st≠[]) (hlz:∀ n ∈ st,n.cx.length≤1000000) (hw:WordsAt w vw ws) (hz:∀ x ∈ ws,x.length≤2000000) (he:Env w):Calls Tryz.prog 227 #[.pointer (some ⟨R,0,none⟩),vw] w (TakeQ R w (iI st ws)):=by
 have HRP:=aB (tA hw hz he);have HLO:Hid (∀ W,Below w.heap.size w W→Below R w W):=fun W hb=>h.low hb
 have HRS:=aB h;have HYE:Hid (∀ st' w',iI st ws=some st'→RS R st' w'→Below R w w'→TakeQ R w (iI st ws) (.returned (.bool true)) w'):=fun st' w' e hs hb=>TakeQ.yes e hb hs
 have HNO:Hid (∀ w',iI st ws=none→Below R w w'→TakeQ R w (iI st ws) (.returned (.bool false)) w'):=fun w' e hb=>TakeQ.no e hb
 obtain ⟨ad,cap,rfl,_,_⟩:=hw;obtain ⟨⟨hR,hf0,hf1⟩,hor⟩:=h;obtain ⟨g,gc,dn,lt,rfl,k0,k1,k2,k3⟩:=hor.resolve_left (fun q=>hne q.1)
 have HL:Hid (iI ((dn++[lt]).map NV.nd) ws=if (fI ws).2=true∧lt.nd.ed=[] then some (dn.map NV.nd++[oX (fI ws).1 lt.nd]) else none):=by
  unfold Hid iI;rw [List.map_append,List.map_cons,List.map_nil,oZ,dX]
 have hzl:=hlz lt.nd (by simp);generalize TakeQ R w (iI ((dn++[lt]).map NV.nd) ws)=QQ at*;generalize iI ((dn++[lt]).map NV.nd) ws=LR at*;generalize (fI ws).2=ok at*;generalize (fI ws).1=p at*
 have HFX:Hid (∀ W,Below w.heap.size w W→(R<W.heap.size∧W.frozen? ⟨R,0,none⟩=false∧W.frozen? ⟨R,1,none⟩=false)∧W.cell? ⟨R,0,none⟩=some (.slice (some ⟨g,0,none⟩) (dn.length+1) gc)∧W.cell? ⟨R,1,none⟩=some (.pointer (some ⟨g,dn.length*6,none⟩))∧RA W (R+1) (.slice (some ⟨g,0,none⟩) (dn.length+1) gc) (dn++[lt])):=fun W hb=>
  ⟨⟨Nat.lt_of_lt_of_le hR hb.size,(hb.frozen (p:=⟨R,0,none⟩) hR).trans hf0,(hb.frozen (p:=⟨R,1,none⟩) hR).trans hf1⟩,(hb.cell (p:=⟨R,0,none⟩) hR).trans k0,(hb.cell (p:=⟨R,1,none⟩) hR).trans k1,k2.below hb⟩
 have HLA:=aB k3
 have HCE:Hid (∀ W,RA W (R+1) (.slice (some ⟨g,0,none⟩) (dn.length+1) gc) (dn++[lt])→W.cell? ⟨g,dn.length*6+4,none⟩=some lt.vc∧W.cell? ⟨g,dn.length*6+5,none⟩=some lt.ve):=fun W hr=>by
  have hrow:=hr.1;rw [show (dn++[lt]).length=dn.length+1 by simp] at hrow;exact ⟨by rw [hrow.cellAt (dn.length*6+4) (by omega),lC];rfl,by rw [hrow.cellAt (dn.length*6+5) (by omega),lC];rfl⟩
 obtain ⟨ho1,ho2⟩:=k2.2 lt (by simp)
 obtain ⟨a4,c4,hv4⟩:∃ a c,lt.vc= .slice a lt.nd.cx.length c:=by
  rcases ho1.2 with ⟨e,hn⟩|⟨gx,cx,_,e,_⟩
  · exact ⟨none,0,by rw [e,hn]⟩
  · exact ⟨_,_,e⟩
 obtain ⟨a5,c5,hv5⟩:∃ a c,lt.ve= .slice a lt.nd.ed.length c:=by
  rcases ho2.2 with ⟨e,hn⟩|⟨gx,cx,_,e,_⟩
  · exact ⟨none,0,by rw [e,hn]⟩
  · exact ⟨_,_,e⟩
 clear hz he hlz hor k0 k1 k2 k3 ho1 ho2 hf0 hf1 hne;cases ok
 · go_enter Tryz.func227,Tryz.ntmps227
   go_wp2_with (go_at_call 254;refine HRP.out.mono ?_;rintro e w1 ⟨rfl,hb⟩;have HB1:=aB (aA hb (aC w1 (.cells #[.string p.nm,.int .i64 p.a,.int .i64 p.b,.int .i64 p.c] 129)));clear hb)
   exact HNO.out _ (by rw [HL.out];simp) (HLO.out _ HB1.out)
 · by_cases hed:lt.nd.ed=[]
   · have hel:((lt.nd.ed.length:Int))=0:=by rw [hed];rfl
     have HL2:Hid (LR=some (dn.map NV.nd++[oX p lt.nd])):=by unfold Hid;rw [HL.out,if_pos ⟨rfl,hed⟩]
     rw [hed,List.length_nil] at hv5;clear HL hed hel
     go_enter Tryz.func227,Tryz.ntmps227
     go_wp2_with (go_at_call 254;refine HRP.out.mono ?_;rintro e w1 ⟨rfl,hb⟩;have HB1:=aB (aA hb (aC w1 (.cells #[.string p.nm,.int .i64 p.a,.int .i64 p.b,.int .i64 p.c] 129)));obtain ⟨_,x0,x1,x2⟩:=HFX.out _ HB1.out;obtain ⟨x3,x4⟩:=HCE.out _ x2;have HX2:=aB x2;rw [hv5] at x4;rw [hv4] at x3;clear hb x2)
     have HOW:Hid ((w1.alloc (.cells #[.string p.nm,.int .i64 p.a,.int .i64 p.b,.int .i64 p.c] 129)).ownsRow (R+1) 129 4 (.slice a4 lt.nd.cx.length c4) lt.nd.cx.length (lt.nd.cx.flatMap pnC)):=by
      have:=(HX2.out.2 lt (by simp)).1
      rw [hv4] at this;exact this
     obtain ⟨⟨y1,y2,y3⟩,_⟩:=HFX.out _ HB1.out
     have HPN:Hid (∀ w2 v1,w2.ownsRow (R+1) 129 4 v1 (lt.nd.cx.length+1) (lt.nd.cx.flatMap pnC++pnC p)→(w1.alloc (.cells #[.string p.nm,.int .i64 p.a,.int .i64 p.b,.int .i64 p.c] 129)).grownBy w2 (Value.slice a4 lt.nd.cx.length c4).ownBlock→(v1.ownBlock=(Value.slice a4 lt.nd.cx.length c4).ownBlock∨∃ k,v1.ownBlock=some k∧(w1.alloc (.cells #[.string p.nm,.int .i64 p.a,.int .i64 p.b,.int .i64 p.c] 129)).heap.size≤k)→(w2.cell? ⟨R,1,none⟩=some (.pointer (some ⟨g,dn.length*6,none⟩))∧w2.cell? ⟨g,dn.length*6+4,none⟩=some (Value.slice a4 lt.nd.cx.length c4)∧w2.frozen? ⟨g,dn.length*6+4,none⟩=false)∧RS R (dn.map NV.nd++[oX p lt.nd]) (w2.setCell ⟨g,dn.length*6+4,none⟩ v1)∧Below R (w1.alloc (.cells #[.string p.nm,.int .i64 p.a,.int .i64 p.b,.int .i64 p.c] 129)) (w2.setCell ⟨g,dn.length*6+4,none⟩ v1)):=fun w2 v1 ho hg hat=>by
      have:=RS.pinned (p:=p) (w1:=w2) (v1:=v1) y1 y2 y3 x0 x1 HX2.out HLA.out ho (by rw [hv4];exact hg) (by rw [hv4];exact hat)
      rw [hv4] at this;exact this
     have hRw:R+1≤(w1.alloc (.cells #[.string p.nm,.int .i64 p.a,.int .i64 p.b,.int .i64 p.c] 129)).heap.size:=y1;have x1':=((aC (w1.alloc (.cells #[.string p.nm,.int .i64 p.a,.int .i64 p.b,.int .i64 p.c] 129)) (.cells #[.string p.nm,.int .i64 p.a,.int .i64 p.b,.int .i64 p.c] 129)).cell (p:=⟨R,1,none⟩) y1).trans x1;have x3':=((aC (w1.alloc (.cells #[.string p.nm,.int .i64 p.a,.int .i64 p.b,.int .i64 p.c] 129)) (.cells #[.string p.nm,.int .i64 p.a,.int .i64 p.b,.int .i64 p.c] 129)).cell (p:=⟨g,dn.length*6+4,none⟩) (bY x3)).trans x3;clear y2 y3
     go_region_law (refine xC (B:=R+1) (M:=w1.heap.size+1) (wx:=(w1.alloc (.cells #[.string p.nm,.int .i64 p.a,.int .i64 p.b,.int .i64 p.c] 129)).drew) (v:= .slice a4 lt.nd.cx.length c4) Ce Tryz.underlying57 rfl (by decide) (by decide) rfl (.tmp 35) (.tmp 37) rfl rfl HOW.out.drew hRw #[.string p.nm,.int .i64 p.a,.int .i64 p.b,.int .i64 p.c] rfl (by simp [Value.oneCell']) (by simp) rfl (by omega) ?_;intro v1 w2 ho hg hat;obtain ⟨g1,cap1,rfl,_⟩:=ho.form (by omega);have HP2:=aB (HPN.out w2 _ ho (sB (aA (Below.refl _ _).drew (aC _ _)) hg) (hat.imp id fun e=>⟨_,e,by simp⟩));obtain ⟨⟨n1,n4,nf⟩,_,_⟩:=HP2.out;clear ho hg hat)
     all_goals go_wp2
     all_goals exact HYE.out _ _ HL2.out HP2.out.2.1 ((HLO.out _ HB1.out).trans HP2.out.2.2)
   · have hel:(0:Int)<(lt.nd.ed.length:Int):=by
      have:lt.nd.ed.length≠0:=fun e=>hed (List.eq_nil_of_length_eq_zero e)
      omega
     have hel2:0<lt.nd.ed.length:=by omega
     have HL2:Hid (LR=none):=by unfold Hid;rw [HL.out,if_neg (fun q=>hed q.2)]
     clear HL hed
     go_enter Tryz.func227,Tryz.ntmps227
     go_wp2_with (go_at_call 254;refine HRP.out.mono ?_;rintro e w1 ⟨rfl,hb⟩;have HB1:=aB (aA hb (aC w1 (.cells #[.string p.nm,.int .i64 p.a,.int .i64 p.b,.int .i64 p.c] 129)));obtain ⟨_,x0,x1,x2⟩:=HFX.out _ HB1.out;obtain ⟨x3,x4⟩:=HCE.out _ x2;rw [hv5] at x4;rw [hv4] at x3;clear hb x2)
     exact HNO.out _ HL2.out (HLO.out _ HB1.out)
set_option maxHeartbeats 12800000 in
theorem CY {R:Nat} {st:List Nd} {w:World} {vw:Value} {ws:List Bs} (h:RS R st w) (hne:st≠[]) (hlz:∀ n ∈ st,n.ed.length≤1000000) (hw:WordsAt w vw ws) (hz:∀ x ∈ ws,x.length≤2000000) (he:Env w):Calls Tryz.prog 228 #[.pointer (some ⟨R,0,none⟩),vw] w (TakeQ R w (eQ st ws)):=by
 have HRP:=aB (CX hw hz he);have HLO:Hid (∀ W,Below w.heap.size w W→Below R w W):=fun W hb=>h.low hb
 have HRS:=aB h;have HYE:Hid (∀ st' w',eQ st ws=some st'→RS R st' w'→Below R w w'→TakeQ R w (eQ st ws) (.returned (.bool true)) w'):=fun st' w' e hs hb=>TakeQ.yes e hb hs
 have HNO:Hid (∀ w',eQ st ws=none→Below R w w'→TakeQ R w (eQ st ws) (.returned (.bool false)) w'):=fun w' e hb=>TakeQ.no e hb
 obtain ⟨ad,cap,rfl,_,_⟩:=hw;obtain ⟨⟨hR,hf0,hf1⟩,hor⟩:=h;obtain ⟨g,gc,dn,lt,rfl,k0,k1,k2,k3⟩:=hor.resolve_left (fun q=>hne q.1)
 have HL:Hid (eQ ((dn++[lt]).map NV.nd) ws=if (nU ws).2=true then some (dn.map NV.nd++[oY (nU ws).1 lt.nd]) else none):=by
  unfold Hid eQ;rw [List.map_append,List.map_cons,List.map_nil,dX]
 have hzl:=hlz lt.nd (by simp);generalize TakeQ R w (eQ ((dn++[lt]).map NV.nd) ws)=QQ at*;generalize eQ ((dn++[lt]).map NV.nd) ws=LR at*;generalize (nU ws).2=ok at*;generalize (nU ws).1=p at*
 have HFX:Hid (∀ W,Below w.heap.size w W→(R<W.heap.size∧W.frozen? ⟨R,0,none⟩=false∧W.frozen? ⟨R,1,none⟩=false)∧W.cell? ⟨R,0,none⟩=some (.slice (some ⟨g,0,none⟩) (dn.length+1) gc)∧W.cell? ⟨R,1,none⟩=some (.pointer (some ⟨g,dn.length*6,none⟩))∧RA W (R+1) (.slice (some ⟨g,0,none⟩) (dn.length+1) gc) (dn++[lt])):=fun W hb=>
  ⟨⟨Nat.lt_of_lt_of_le hR hb.size,(hb.frozen (p:=⟨R,0,none⟩) hR).trans hf0,(hb.frozen (p:=⟨R,1,none⟩) hR).trans hf1⟩,(hb.cell (p:=⟨R,0,none⟩) hR).trans k0,(hb.cell (p:=⟨R,1,none⟩) hR).trans k1,k2.below hb⟩
 have HLA:=aB k3
 have HCE:Hid (∀ W,RA W (R+1) (.slice (some ⟨g,0,none⟩) (dn.length+1) gc) (dn++[lt])→W.cell? ⟨g,dn.length*6+4,none⟩=some lt.vc∧W.cell? ⟨g,dn.length*6+5,none⟩=some lt.ve):=fun W hr=>by
  have hrow:=hr.1;rw [show (dn++[lt]).length=dn.length+1 by simp] at hrow;exact ⟨by rw [hrow.cellAt (dn.length*6+4) (by omega),lC];rfl,by rw [hrow.cellAt (dn.length*6+5) (by omega),lC];rfl⟩
 obtain ⟨ho1,ho2⟩:=k2.2 lt (by simp)
 obtain ⟨a4,c4,hv4⟩:∃ a c,lt.vc= .slice a lt.nd.cx.length c:=by
  rcases ho1.2 with ⟨e,hn⟩|⟨gx,cx,_,e,_⟩
  · exact ⟨none,0,by rw [e,hn]⟩
  · exact ⟨_,_,e⟩
 obtain ⟨a5,c5,hv5⟩:∃ a c,lt.ve= .slice a lt.nd.ed.length c:=by
  rcases ho2.2 with ⟨e,hn⟩|⟨gx,cx,_,e,_⟩
  · exact ⟨none,0,by rw [e,hn]⟩
  · exact ⟨_,_,e⟩
 clear hz he hlz hor k0 k1 k2 k3 ho1 ho2 hf0 hf1 hne;cases ok
 · go_enter Tryz.func228,Tryz.ntmps228
   go_wp2_with (go_at_call 255;refine HRP.out.mono ?_;rintro e w1 ⟨rfl,hb⟩;have HB1:=aB (aA hb (aC w1 (.cells #[.string p.lb,.int .i64 p.to] 62)));clear hb)
   exact HNO.out _ (by rw [HL.out];simp) (HLO.out _ HB1.out)
 · have HL2:Hid (LR=some (dn.map NV.nd++[oY p lt.nd])):=by unfold Hid;rw [HL.out,if_pos rfl]
   clear HL
   go_enter Tryz.func228,Tryz.ntmps228
   go_wp2_with (go_at_call 255;refine HRP.out.mono ?_;rintro e w1 ⟨rfl,hb⟩;have HB1:=aB (aA hb (aC w1 (.cells #[.string p.lb,.int .i64 p.to] 62)));obtain ⟨_,x0,x1,x2⟩:=HFX.out _ HB1.out;obtain ⟨x3,x4⟩:=HCE.out _ x2;have HX2:=aB x2;rw [hv5] at x4;rw [hv4] at x3;clear hb x2)
   have HOW:Hid ((w1.alloc (.cells #[.string p.lb,.int .i64 p.to] 62)).ownsRow (R+1) 62 2 (.slice a5 lt.nd.ed.length c5) lt.nd.ed.length (lt.nd.ed.flatMap egC)):=by
    have:=(HX2.out.2 lt (by simp)).2
    rw [hv5] at this;exact this
   obtain ⟨⟨y1,y2,y3⟩,_⟩:=HFX.out _ HB1.out
   have HPN:Hid (∀ w2 v1,w2.ownsRow (R+1) 62 2 v1 (lt.nd.ed.length+1) (lt.nd.ed.flatMap egC++egC p)→(w1.alloc (.cells #[.string p.lb,.int .i64 p.to] 62)).grownBy w2 (Value.slice a5 lt.nd.ed.length c5).ownBlock→(v1.ownBlock=(Value.slice a5 lt.nd.ed.length c5).ownBlock∨∃ k,v1.ownBlock=some k∧(w1.alloc (.cells #[.string p.lb,.int .i64 p.to] 62)).heap.size≤k)→(w2.cell? ⟨R,1,none⟩=some (.pointer (some ⟨g,dn.length*6,none⟩))∧w2.cell? ⟨g,dn.length*6+5,none⟩=some (Value.slice a5 lt.nd.ed.length c5)∧w2.frozen? ⟨g,dn.length*6+5,none⟩=false)∧RS R (dn.map NV.nd++[oY p lt.nd]) (w2.setCell ⟨g,dn.length*6+5,none⟩ v1)∧Below R (w1.alloc (.cells #[.string p.lb,.int .i64 p.to] 62)) (w2.setCell ⟨g,dn.length*6+5,none⟩ v1)):=fun w2 v1 ho hg hat=>by
    have:=RS.edged (p:=p) (w1:=w2) (v1:=v1) y1 y2 y3 x0 x1 HX2.out HLA.out ho (by rw [hv5];exact hg) (by rw [hv5];exact hat)
    rw [hv5] at this;exact this
   have hRw:R+1≤(w1.alloc (.cells #[.string p.lb,.int .i64 p.to] 62)).heap.size:=y1;have x1':=((aC (w1.alloc (.cells #[.string p.lb,.int .i64 p.to] 62)) (.cells #[.string p.lb,.int .i64 p.to] 62)).cell (p:=⟨R,1,none⟩) y1).trans x1;have x4':=((aC (w1.alloc (.cells #[.string p.lb,.int .i64 p.to] 62)) (.cells #[.string p.lb,.int .i64 p.to] 62)).cell (p:=⟨g,dn.length*6+5,none⟩) (bY x4)).trans x4;clear y2 y3
   go_region_law (refine xC (B:=R+1) (M:=w1.heap.size+1) (wx:=(w1.alloc (.cells #[.string p.lb,.int .i64 p.to] 62)).drew) (v:= .slice a5 lt.nd.ed.length c5) YX Tryz.underlying58 rfl (by decide) (by decide) rfl (.tmp 24) (.tmp 26) rfl rfl HOW.out.drew hRw #[.string p.lb,.int .i64 p.to] rfl (by simp [Value.oneCell']) (by simp) rfl (by omega) ?_;intro v1 w2 ho hg hat;obtain ⟨g1,cap1,rfl,_⟩:=ho.form (by omega);have HP2:=aB (HPN.out w2 _ ho (sB (aA (Below.refl _ _).drew (aC _ _)) hg) (hat.imp id fun e=>⟨_,e,by simp⟩));obtain ⟨⟨n1,n4,nf⟩,_,_⟩:=HP2.out;clear ho hg hat)
   all_goals go_wp2
   all_goals exact HYE.out _ _ HL2.out HP2.out.2.1 ((HLO.out _ HB1.out).trans HP2.out.2.2)
def oA:Bs:=[114,111,111,116]
def IZ:Bs:=[110,111,100,101]
def QI:Bs:=[119,105,116,104]
def wTo:Bs:=[116,111]
def cK (st:List Nd) (x:Bs) (ws:List Bs):Option (List Nd):=
 if x=oA then (if st=[] then gJ st ws else none)
 else if st=[] then none
 else if x=IZ then fC st ws else if x=QI then iI st ws else if x=wTo then eQ st ws else none
theorem Ez (x:Bs):(ba x).toList=x:=by rw [ByteArray.toList_eq,Sc.cQ]
theorem JA (x y:Bs):((ba x).toList==y)=decide (x=y):=by
 rw [Ez]
 by_cases h:x=y
 · rw [decide_eq_true h,h];simp
 · rw [decide_eq_false h,beq_eq_false_iff_ne];exact h
set_option maxHeartbeats 3200000 in
theorem YZ {R:Nat} {st:List Nd} {w:World} {vw:Value} {x:Bs} {ws:List Bs} (h:RS R st w) (hlen:st.length≤1000000) (hlz:∀ n ∈ st,n.cx.length≤1000000∧n.ed.length≤1000000) (hw:WordsAt w vw ws) (hz:∀ x ∈ ws,x.length≤2000000) (he:Env w):
 Calls Tryz.prog 186 #[.pointer (some ⟨R,0,none⟩),.string (ba x),vw] w (TakeQ R w (cK st x ws)):=by
 have q1:=JA x [114,111,111,116];have q2:=JA x [110,111,100,101];have q3:=JA x [119,105,116,104];have q4:=JA x [116,111];have HNO:Hid (∀ r,r=none→TakeQ R w r (.returned (.bool false)) w):=fun r hr=>TakeQ.no hr (Below.refl _ _)
 have HTF:Hid (Calls Tryz.prog 225 #[.pointer (some ⟨R,0,none⟩),vw] w (TakeQ R w (gJ st ws))):=yM h hlen hw;have HTL:Hid (Calls Tryz.prog 226 #[.pointer (some ⟨R,0,none⟩),vw] w (TakeQ R w (fC st ws))):=yN h hlen hw hz he;have HTP:Hid (st≠[]→Calls Tryz.prog 227 #[.pointer (some ⟨R,0,none⟩),vw] w (TakeQ R w (iI st ws))):=fun hne=>IY h hne (fun n hn=>(hlz n hn).1) hw hz he
 have HTE:Hid (st≠[]→Calls Tryz.prog 228 #[.pointer (some ⟨R,0,none⟩),vw] w (TakeQ R w (eQ st ws))):=fun hne=>CY h hne (fun n hn=>(hlz n hn).2) hw hz he
 have HBO:Hid (∀ r e w',TakeQ R w r e w'→∃ b,e= .returned (.bool b)):=fun r e w' hq=>by
  rcases hq.2 with ⟨_,_,he,_⟩|⟨_,he⟩
  · exact ⟨_,he⟩
  · exact ⟨_,he⟩
 obtain ⟨ad,cap,rfl,_,_⟩:=hw;clear hz he hlz
 by_cases hst:st=[]
 · have c1:w.cell? ⟨R,1,none⟩=some (.pointer none):=by
    rcases h.2 with ⟨_,_,k⟩|⟨g,gc,dn,lt,e,_⟩
    · exact k
    · rw [hst] at e;simp at e
   clear h
   by_cases h1:x=oA
   · have e1:cK st x ws=gJ st ws:=by unfold cK;rw [if_pos h1,if_pos hst]
     rw [decide_eq_true (show x=[114,111,111,116] from h1)] at q1;have HQ1:=aB (HBO.out (gJ st ws));rw [e1];generalize TakeQ R w (gJ st ws)=QQ at*;clear e1 h1 hst q2 q3 q4;generalize ba x=sx at*
     go_enter Tryz.func186,Tryz.ntmps186
     go_wp2_with (go_at_call 225;refine HTF.out.mono ?_;intro e w1 hq1;obtain ⟨b1,rfl⟩:=HQ1.out _ _ hq1)
     exact hq1
   · have e1:cK st x ws=none:=by unfold cK;rw [if_neg h1,if_pos hst]
     rw [decide_eq_false (show ¬ x=[114,111,111,116] from h1)] at q1;rw [e1];have HN:=aB (HNO.out none rfl);generalize TakeQ R w none=QQ at*;clear e1 h1 hst q2 q3 q4;generalize ba x=sx at*
     go_enter Tryz.func186,Tryz.ntmps186
     go_wp2
     exact HN.out
 · obtain ⟨g1,o1,c1⟩:∃ g o,w.cell? ⟨R,1,none⟩=some (.pointer (some ⟨g,o,none⟩)):=by
    rcases h.2 with ⟨e,_⟩|⟨g,gc,dn,lt,_,_,k,_⟩
    · exact absurd e hst
    · exact ⟨_,_,k⟩
   clear h
   by_cases h1:x=oA
   · have e1:cK st x ws=none:=by unfold cK;rw [if_pos h1,if_neg hst]
     rw [decide_eq_true (show x=[114,111,111,116] from h1)] at q1;rw [e1];have HN:=aB (HNO.out none rfl);generalize TakeQ R w none=QQ at*;clear e1 h1 hst q2 q3 q4;generalize ba x=sx at*
     go_enter Tryz.func186,Tryz.ntmps186
     go_wp2
     exact HN.out
   · rw [decide_eq_false (show ¬ x=[114,111,111,116] from h1)] at q1
     by_cases h2:x=IZ
     · have e1:cK st x ws=fC st ws:=by unfold cK;rw [if_neg h1,if_neg hst,if_pos h2]
       rw [decide_eq_true (show x=[110,111,100,101] from h2)] at q2;have HQ1:=aB (HBO.out (fC st ws));rw [e1];generalize TakeQ R w (fC st ws)=QQ at*;clear e1 h1 h2 hst q3 q4;generalize ba x=sx at*
       go_enter Tryz.func186,Tryz.ntmps186
       go_wp2_with (go_at_call 226;refine HTL.out.mono ?_;intro e w1 hq1;obtain ⟨b1,rfl⟩:=HQ1.out _ _ hq1)
       exact hq1
     · rw [decide_eq_false (show ¬ x=[110,111,100,101] from h2)] at q2
       by_cases h3:x=QI
       · have e1:cK st x ws=iI st ws:=by unfold cK;rw [if_neg h1,if_neg hst,if_neg h2,if_pos h3]
         rw [decide_eq_true (show x=[119,105,116,104] from h3)] at q3;have HT:=aB (HTP.out hst);have HQ1:=aB (HBO.out (iI st ws));rw [e1];generalize TakeQ R w (iI st ws)=QQ at*;clear e1 h1 h2 h3 hst q4;generalize ba x=sx at*
         go_enter Tryz.func186,Tryz.ntmps186
         go_wp2_with (go_at_call 227;refine HT.out.mono ?_;intro e w1 hq1;obtain ⟨b1,rfl⟩:=HQ1.out _ _ hq1)
         exact hq1
       · rw [decide_eq_false (show ¬ x=[119,105,116,104] from h3)] at q3
         by_cases h4:x=wTo
         · have e1:cK st x ws=eQ st ws:=by unfold cK;rw [if_neg h1,if_neg hst,if_neg h2,if_neg h3,if_pos h4]
           rw [decide_eq_true (show x=[116,111] from h4)] at q4;have HT:=aB (HTE.out hst);have HQ1:=aB (HBO.out (eQ st ws));rw [e1];generalize TakeQ R w (eQ st ws)=QQ at*;clear e1 h1 h2 h3 h4 hst;generalize ba x=sx at*
           go_enter Tryz.func186,Tryz.ntmps186
           go_wp2_with (go_at_call 228;refine HT.out.mono ?_;intro e w1 hq1;obtain ⟨b1,rfl⟩:=HQ1.out _ _ hq1)
           exact hq1
         · have e1:cK st x ws=none:=by unfold cK;rw [if_neg h1,if_neg hst,if_neg h2,if_neg h3,if_neg h4]
           rw [decide_eq_false (show ¬ x=[116,111] from h4)] at q4;rw [e1];have HN:=aB (HNO.out none rfl);generalize TakeQ R w none=QQ at*;clear e1 h1 h2 h3 h4 hst;generalize ba x=sx at*
           go_enter Tryz.func186,Tryz.ntmps186
           go_wp2
           exact HN.out
def cC:List Nd→List (List Bs)→Option (List Nd)
 |st,[]=>some st
 |_,[]::_=>none
 |st,(x::ws)::r=>match cK st x ws with
  |some st'=>cC st' r
  |none=>none
def tB:Bs:=[108,111,99,107]
def eY:List (List Bs)→Option (List Nd)
 |[]=>none
 |h::r=>if h=[tB] then cC [] r else none
theorem jM:∀ (L:List (List Bs)) (st:List Nd) (x:Bs) (ws:List Bs),cC st (L++[x::ws])=(match cC st L with|some st'=>cK st' x ws|none=>none)
 |[],st,x,ws=>by
  simp only [List.nil_append,cC];cases cK st x ws<;>rfl
 |[]::L,st,x,ws=>rfl
 |(y::vs)::L,st,x,ws=>by
  simp only [List.cons_append,cC];cases cK st y vs with
  |none=>rfl
  |some st'=>exact jM L st' x ws
theorem pD:∀ (L M:List (List Bs)) (st:List Nd),cC st L=none→cC st (L++M)=none
 |[],M,st,h=>by cases h
 |[]::L,M,st,_=>rfl
 |(y::vs)::L,M,st,h=>by
  simp only [List.cons_append,cC] at h ⊢;cases ht:cK st y vs with
  |none=>rfl
  |some st'=>rw [ht] at h;exact pD L M st' h
def Bd (m:Nat) (st:List Nd):Prop:=st.length≤m∧∀ n ∈ st,n.cx.length≤m∧n.ed.length≤m
theorem CZ {f:Nd→Nd}:∀ {st:List Nd} {n:Nd},n ∈ iA f st→n ∈ st∨∃ l ∈ st,n=f l
 |[],n,h=>by cases h
 |[l],n,h=>by
  unfold iA at h;exact Or.inr ⟨l,by simp,List.mem_singleton.1 h⟩
 |x::y::r,n,h=>by
  unfold iA at h
  rcases List.mem_cons.1 h with rfl|h
  · exact Or.inl (by simp)
  · rcases CZ h with h|⟨l,hl,e⟩
    · exact Or.inl (List.mem_cons_of_mem _ h)
    · exact Or.inr ⟨l,List.mem_cons_of_mem _ hl,e⟩
theorem DA {f:Nd→Nd}:∀ st:List Nd,(iA f st).length=st.length
 |[]=>rfl
 |[l]=>rfl
 |x::y::r=>by
  unfold iA;rw [List.length_cons,DA (y::r)];rfl
theorem QJ {m:Nat} {st:List Nd} (h:Bd m st) (n:Nd) (hc:n.cx=[]) (he:n.ed=[]):Bd (m+1) (st++[n]):=by
 refine ⟨by have:=h.1;simp;omega,fun x hx=> ?_⟩
 rcases List.mem_append.1 hx with hx|hx
 · have:=h.2 x hx
   exact ⟨by omega,by omega⟩
 · obtain rfl:=List.mem_singleton.1 hx
   rw [hc,he]
   simp
theorem QK {m:Nat} {st st':List Nd} {x:Bs} {ws:List Bs} (h:Bd m st) (ht:cK st x ws=some st'):Bd (m+1) st':=by
 unfold cK at ht
 split at ht
 · split at ht
   · unfold gJ at ht
     split at ht
     · cases ht;exact QJ h _ rfl rfl
     · cases ht
   · cases ht
 · split at ht
   · cases ht
   · split at ht
     · unfold fC at ht
       split at ht
       · cases ht;exact QJ h _ rfl rfl
       · cases ht
     · split at ht
       · unfold iI at ht
         split at ht
         · cases ht
           refine ⟨by rw [DA];have:=h.1;omega,fun n hn=> ?_⟩
           rcases CZ hn with hn|⟨l,hl,rfl⟩
           · have:=h.2 n hn
             exact ⟨by omega,by omega⟩
           · have:=h.2 l hl
             simp only [oX,List.length_append,List.length_singleton];exact ⟨by omega,by omega⟩
         · cases ht
       · split at ht
         · unfold eQ at ht
           split at ht
           · cases ht
             refine ⟨by rw [DA];have:=h.1;omega,fun n hn=> ?_⟩
             rcases CZ hn with hn|⟨l,hl,rfl⟩
             · have:=h.2 n hn
               exact ⟨by omega,by omega⟩
             · have:=h.2 l hl
               simp only [oY,List.length_append,List.length_singleton];exact ⟨by omega,by omega⟩
           · cases ht
         · cases ht
def GrQ (w:World) (r:Option (List Nd)) (e:Ending) (w':World):Prop:=Below w.heap.size w w'∧
 ((∃ ad cap all,r=some (all.map NV.nd)∧e= .returned (.tuple #[.agg #[.slice ad all.length cap],.bool true])∧RA w' w.heap.size (.slice ad all.length cap) all)∨(r=none∧e= .returned (.tuple #[.agg #[.slice none 0 0],.bool false])))
def BxGF (w:World) (N:Nat) (v:Value):Prop:=BxG w N v∧w.frozen? ⟨N,0,none⟩=false
theorem JB (N:Nat) (v:Value):KeepP fun w1=>BxGF w1 N v:=fun _ _ h hb=>⟨tZ _ _ _ _ h.1 hb,(hb.frozen (p:=⟨N,0,none⟩) h.1.2).trans h.2⟩
theorem BxGF.new {w:World} {N:Nat} (hN:w.heap.size=N) (v:Value):BxGF (w.alloc (.cells #[v] 27)) N v:=by
 refine ⟨BxG.new hN _,?_⟩;subst hN
 simp
theorem BxGF.of {w w':World} {R N:Nat} {v:Value} (h:BxGF w N v) (hb:Below R w w') (hN:N<R):BxGF w' N v:=⟨⟨(hb.cell (p:=⟨N,0,none⟩) hN).trans h.1.1,Nat.lt_of_lt_of_le h.1.2 hb.size⟩,(hb.frozen (p:=⟨N,0,none⟩) hN).trans h.2⟩
theorem DB {w:World} {B C:Nat} {e:TypeId} {z:Nat} {v:Value} {n:Nat} {xs:List Value} (h:w.ownsRow B e z v n xs) (hc:C≤B):w.ownsRow C e z v n xs:=by
 refine ⟨h.1,h.2.imp id ?_⟩;rintro ⟨g,cap,cur,rfl,hB,r⟩;exact ⟨g,cap,cur,rfl,Nat.le_trans hc hB,r⟩
theorem pE (h:List Bs) (r:List (List Bs)):eY (h::r)=if h=[tB] then cC [] r else none:=rfl
theorem RA.low {w:World} {B C:Nat} {v:Value} {all:List NV} (h:RA w B v all) (hc:C≤B):RA w C v all:=⟨DB h.1 hc,fun x hx=>⟨DB (h.2 x hx).1 hc,DB (h.2 x hx).2 hc⟩⟩
theorem RS.start {w:World} {R:Nat} (hR:w.heap.size=R):RS R [] (w.alloc (.cells #[.slice none 0 0,.pointer none] 233)):=by
 subst hR;refine ⟨⟨by simp,by simp,by simp⟩,Or.inl ⟨rfl,by simp,by simp⟩⟩
end Go.Proofs.YtmnhnofnlcbliaaGreatDoor.Lo
