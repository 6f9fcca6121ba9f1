/- Im3, Tr1, Ts1, ScLi2, ScLi3, Ta1, Ta2: their declarations that are needed, laid in one text, remarks and blanks left out. -/
import Derived.Test.YtmnhnofnlcbliaaGreatDoorShelfE
import Derived.Test.YtmnhnofnlcbliaaGreatDoorShelfN
import Derived.Test.YtmnhnofnlcbliaaGreatDoorScA
import Derived.Test.YtmnhnofnlcbliaaGreatDoorShelfO
import Derived.Test.YtmnhnofnlcbliaaGreatDoorMg11
namespace Go.Proofs.YtmnhnofnlcbliaaGreatDoor
open Go.Shelf Go.RowKit Go.Lib Go.Sort Go.Maps Go.WideMaps
set_option maxRecDepth 100000
set_option maxHeartbeats 1600000 in
theorem LS (x y:Fi) (w:World):Calls Tryz.prog 70 #[.agg (dY x).toArray,.agg (dY y).toArray] w fun e w'=>e= .returned (.int .i64 (eF x.pa y.pa))∧Gd w w':=by
 have HSC:Hid (∀ W,Calls Tryz.prog 71 #[.string x.pa,.string y.pa] W fun e w'=>e= .returned (.int .i64 (eF x.pa y.pa))∧w'=W):=fun W=>Tryz.strings_Compare x.pa y.pa W
 have HG0:Hid (Gd w ((w.alloc (.cells #[.string x.pa,.bool x.dr,.string x.da] 45)).alloc (.cells #[.string y.pa,.bool y.dr,.string y.da] 45))):=Gd.box2 _ _ _;unfold dY;generalize eF x.pa y.pa=r at*
 go_enter Tryz.func70,Tryz.ntmps70
 go_wp2_with (go_at_call 71;refine (HSC.out _).mono ?_;rintro e w1 ⟨rfl,rfl⟩)
 go_ret;exact ⟨rfl,HG0.out⟩
def oL (ts:List Fi):Prop:=ts.Pairwise fun x y=>¬ eF y.pa x.pa<0
theorem SY {w:World} {base:Nat} {v:Value} {V:List Fi} (hown:w.ownsRow base 45 3 v V.length (V.flatMap dY)) (hz:V.length≤1000000000):
 Calls Tryz.prog 123 #[v,.func (.func 70) #[] #[]] w fun e w'=>e= .returned (.tuple #[])∧∃ ts:List Fi,ts.Perm V∧oL ts∧w'.ownsRow base 45 3 v ts.length (ts.flatMap dY)∧w.grownBy w' v.ownBlock:=by
 haveI:Inhabited Fi:=⟨⟨⟨#[]⟩,false,⟨#[]⟩⟩⟩
 have eg:∀ args w,(callFunc 70 args).run Tryz.prog w= .ok (.enter 70 args) w:=enters_of Tryz.func70 (by kernel_rfl) rfl;have h:=WH Tryz.sortF 3 (by decide) Tryz.isAgg45 Tryz.sizeOf45 dY (fun _=>rfl) (fun x v hv=>by simp [dY] at hv;rcases hv with rfl|rfl|rfl<;>rfl) (fun x y=>eF x.pa y.pa) (tL.swo fun x:Fi=>x.pa) 70 eg (fun x y W=>LS x y W) hown (by omega);refine h.mono ?_;rintro e w' ⟨rfl,ts,h1,h2,h3,h4⟩;refine ⟨rfl,ts,h1,?_,h3,h4⟩;refine h2.imp fun {x y} q=> ?_
 unfold ltOf at q
 simpa using q
theorem GB (mb:Option Nat) (w:World):Calls Tryz.prog 24 #[.map mb] w fun e w'=>e= .returned (.func (.func 72) #[] #[.pointer (some ⟨w.heap.size,0,none⟩)])∧w'=w.alloc (.cells #[.map mb] 74):=by
 go_enter Tryz.func24,Tryz.ntmps24
 go_wp2
 go_ret;exact ⟨rfl,rfl⟩
theorem bS {w w':World} {mb n:Nat} {D:DataW Value} (h:w.ownsMap Tryz.prog 9 gO mb n D) (hb:Below w.heap.size w w'):w'.ownsMap Tryz.prog 9 gO mb n D:=by
 have hl:=h.lt;obtain ⟨es,clock,hbk,r⟩:=h;exact ⟨es,clock,by rw [hb.block mb hl];exact hbk,r⟩
theorem LT (n:Nat) (hn:1≤n) (Bm b nn:Nat) {L:List Fi} {D:DataW Value} (hD:MapF D L) (w:World) (hBm:Bm<w.heap.size) (hm:w.cell? ⟨Bm,0,none⟩=some (.map (some b))) (hown:w.ownsMap Tryz.prog 9 gO b nn D):
 SeqGives Fence.wide n Tryz.prog 72 #[.pointer (some ⟨Bm,0,none⟩)] iZ (fun V=>V.Perm L) L.length w:=fun l J W hW hJ hY h0=>
 VB n hn l Bm b nn hD J hY W hJ ((hW.cell (p:=⟨Bm,0,none⟩) hBm).trans hm) (bS hown hW) h0
theorem XD (g:Nat) (lb:Array Value) (eg:∀ args w,(callFunc g args).run Tryz.prog w= .ok (.enter g args) w) (S:List Fi→Prop) (N:Nat) (hN:N≤1000000) (w:World) (hseq:RG Fence.wide 4 Tryz.prog g lb iZ S N w):
 Calls Tryz.prog 122 #[.func (.func g) #[] lb] w fun e w'=>∃ (v:Value) (V:List Fi),e= .returned v∧S V∧w'.ownsRow w.heap.size 45 3 v V.length (V.flatMap dY)∧Below w.heap.size w w':=by
 have HAP:Hid (Calls Tryz.prog 166 #[.slice none 0 0,.func (.func g) #[] lb] w fun e w'=>∃ (v:Value) (V:List Fi),e= .returned v∧S V∧w'.ownsRow w.heap.size 45 3 v V.length (V.flatMap dY)∧Below w.heap.size w w'):=
  callsIn_wide.1 (KH 5 (by decide) g lb eg S N hN w hseq)
 clear hseq eg
 go_enter Tryz.func122,Tryz.ntmps122
 go_wp2_with (go_at_call 166;refine HAP.out.mono ?_;rintro e w1 ⟨v,V,rfl,hV,ho,hb⟩)
 go_ret;exact ⟨v,V,rfl,hV,ho,hb⟩
set_option maxHeartbeats 1600000 in
theorem CG (g:Nat) (lb:Array Value) (eg:∀ args w,(callFunc g args).run Tryz.prog w= .ok (.enter g args) w) (S:List Fi→Prop) (N:Nat) (hN:N≤1000000) (hSN:∀ V,S V→V.length≤1000000000) (w:World) (hseq:RG Fence.wide 4 Tryz.prog g lb iZ S N w):
 Calls Tryz.prog 69 #[.func (.func g) #[] lb,.func (.func 70) #[] #[]] w fun e w'=>∃ (v:Value) (V ts:List Fi),e= .returned v∧S V∧(ts.Perm V∧oL ts)∧w'.ownsRow w.heap.size 45 3 v ts.length (ts.flatMap dY)∧Below w.heap.size w w':=by
 have HCO:=aB (XD g lb eg S N hN w hseq);have HSN:=aB hSN;have HSO:Hid (∀ (W:World) (v:Value) (V:List Fi),W.ownsRow w.heap.size 45 3 v V.length (V.flatMap dY)→V.length≤1000000000→Calls Tryz.prog 123 #[v,.func (.func 70) #[] #[]] W fun e w'=>e= .returned (.tuple #[])∧∃ ts:List Fi,ts.Perm V∧oL ts∧w'.ownsRow w.heap.size 45 3 v ts.length (ts.flatMap dY)∧W.grownBy w' v.ownBlock):=fun W v V ho hz=>SY ho hz
 clear hseq eg hSN
 go_enter Tryz.func69,Tryz.ntmps69
 go_wp2_with (first
  |(go_at_call 122;refine HCO.out.mono ?_;rintro e w1 ⟨v,V,rfl,hV,ho,hb⟩;have HV:=aB hV;have HO:=aB ho;have HB:=aB hb;clear hV ho hb)
  |(go_at_call 123;refine (HSO.out _ _ _ HO.out (HSN.out _ HV.out)).mono ?_;rintro e w2 ⟨rfl,ts,hp,hs,ho,hg⟩;have HR:Hid ((ts.Perm V∧oL ts)∧w2.ownsRow w.heap.size 45 3 v ts.length (ts.flatMap dY)∧Below w.heap.size w w2):=⟨⟨hp,hs⟩,ho,HB.out.grown hg HB.out.size (fun k hk=>(World.ownsRow.lt HO.out k hk).1)⟩;clear hp hs ho hg))
 go_ret;exact ⟨v,V,ts,rfl,HV.out,HR.out.1,HR.out.2.1,HR.out.2.2⟩
theorem sT (g:Nat) (lb:Array Value) (eg:∀ args w,(callFunc g args).run Tryz.prog w= .ok (.enter g args) w) (S:List Fi→Prop) (N:Nat) (hN:N≤1000000) (hSN:∀ V,S V→V.length≤1000000000) (w:World) (hseq:RG Fence.wide 4 Tryz.prog g lb iZ S N w):
 Calls Tryz.prog 23 #[.func (.func g) #[] lb] w fun e w'=>∃ (v:Value) (V ts:List Fi),e= .returned v∧S V∧(ts.Perm V∧oL ts)∧w'.ownsRow w.heap.size 45 3 v ts.length (ts.flatMap dY)∧Below w.heap.size w w':=by
 have HS:=aB (CG g lb eg S N hN hSN w hseq);clear hseq eg hSN
 go_enter Tryz.func23,Tryz.ntmps23
 go_wp2_with (go_at_call 69;refine HS.out.mono ?_;rintro e w1 ⟨v,V,ts,rfl,hV,hp,ho,hb⟩)
 go_ret;exact ⟨v,V,ts,rfl,hV,hp,ho,hb⟩
end Go.Proofs.YtmnhnofnlcbliaaGreatDoor
namespace Go.Proofs.YtmnhnofnlcbliaaGreatDoor
open Go.RowKit
set_option maxRecDepth 100000
set_option maxHeartbeats 1600000 in
theorem LV (A B:List ByteArray) (hAB:A.length=B.length) (hsz:A.length≤9223372036854775807) (ad bd:Option Addr) (ca cb:Nat) (w:World) (hla:∀ i (h:i<A.length),∃ g o,ad=some ⟨g,o,none⟩∧StIn w g (o+i) A[i]) (hlb:∀ i (h:i<B.length),∃ g o,bd=some ⟨g,o,none⟩∧StIn w g (o+i) B[i]):
 Calls Tryz.prog 47 #[.slice ad A.length ca,.slice bd B.length cb] w fun e w'=>e= .returned (.bool (eqB A B))∧Below w.heap.size w w':=by
 have HL:Hid (∀ w1,Below w.heap.size w w1→∀ i (h:i<A.length) (h2:i<B.length),(∃ g o,ad=some ⟨g,o,none⟩∧StIn w1 g (o+i) A[i])∧∃ g o,bd=some ⟨g,o,none⟩∧StIn w1 g (o+i) B[i]):=fun w1 hb i hi hi2=>⟨by obtain ⟨g,o,e,h⟩:=hla i hi;exact ⟨g,o,e,h.below hb⟩,by obtain ⟨g,o,e,h⟩:=hlb i hi2;exact ⟨g,o,e,h.below hb⟩⟩
 have HAB:=aB hAB;clear hla hlb;rw [←hAB];clear hAB
 go_enter Tryz.func47,Tryz.ntmps47
 go_wp2_with fail
 go_loopw [5] (fun i wr=>∃ k:Nat,k≤A.length∧i= .int .i64 k∧Below w.heap.size w wr∧∀ j (h:j<k) (h1:j<A.length) (h2:j<B.length),A[j]=B[j]) (fun i _=>A.length - (intOf i).toNat)
 case atStart=>exact ⟨0,Nat.zero_le _,rfl,Below.refl _ _,fun j h=>by omega⟩
 case round=>
  obtain ⟨k,hk,rfl,hb,hall⟩:=hrel;have HALL:=aB hall;have HB:=aB hb;clear hall
  by_cases hlt:k<A.length
  · have hltB:k<B.length:=HAB.out ▸ hlt
    obtain ⟨⟨ga,oa,rfl,hsa⟩,⟨gb,ob,rfl,hsb⟩⟩:=HL.out wr hb k hlt hltB;have HO:Hid (Below w.heap.size w wr∧StIn wr ga (oa+k) A[k]∧StIn wr gb (ob+k) B[k]):=⟨hb,hsa,hsb⟩;have HK:Hid (KeepP fun w1=>Below w.heap.size w w1∧StIn w1 ga (oa+k) A[k]∧StIn w1 gb (ob+k) B[k]):=(aG w).and ((pS _ _ _).and (pS _ _ _));have HNE:Hid (A[k]≠B[k]→eqB A B=false):=fun h=>bX fun e=>by subst e;exact h rfl
    have HST:Hid (A[k]=B[k]→∀ j (h:j<k+1) (h1:j<A.length) (h2:j<B.length),A[j]=B[j]):=fun h j hj h1 h2=>by
     rcases Nat.lt_or_ge j k with hjk|hjk
     · exact HALL.out j hjk h1 h2
     · obtain rfl:j=k:=by omega
       exact h
    generalize A[k]=s at*;generalize B[k]=t at*;clear hsa hsb
    by_cases hq:s=t
    · have HR:=aB (HST.out hq)
      have hqq:(s.toList==t.toList)=true:=by rw [hq];simp
      clear hb HNE HST HALL hq
      go_wp2_with fail
      refine cE HK (by kernel_rfl) (by kernel_rfl) (by first|exact HO.out|exact HK.out.drew HO.out) ?_;intro C HIN HOUT;clear HO
      repeat
       (with_reducible refine wpQuiet_step (fun K hK=> ?_)
        go_simp
        first
         |(refine hK _ ?_;clear hK K)
         |(apply Exists.intro;refine ⟨fun w1 hC=> ?_,hK _ ?_⟩;(focus ((first|(exact rfl)|(obtain ⟨hb1,⟨p0,p1⟩,⟨q0,q1⟩⟩:=HOUT.out w1 hC;clear hC;go_simp;first|done|exact rfl));done));clear hK K))
      refine wpQuiet_nil ?_;intro wn hC;have HO:=aB (HOUT.out _ hC);clear hC HIN HOUT C;obtain ⟨hb1,⟨p0,p1⟩,⟨q0,q1⟩⟩:=HO.out
      go_wp2
      exact ⟨⟨k+1,by omega,by go_num,HO.out.1,HR.out⟩,by simp [intOf];omega⟩
    · have HR:=aB (HNE.out hq)
      have hqq:(s.toList==t.toList)=false:=by rw [beq_eq_false_iff_ne];exact fun e=>hq (EX e)
      clear hb HNE HST HALL hq
      go_wp2_with fail
      refine cE HK (by kernel_rfl) (by kernel_rfl) (by first|exact HO.out|exact HK.out.drew HO.out) ?_;intro C HIN HOUT;clear HO
      repeat
       (with_reducible refine wpQuiet_step (fun K hK=> ?_)
        go_simp
        first
         |(refine hK _ ?_;clear hK K)
         |(apply Exists.intro;refine ⟨fun w1 hC=> ?_,hK _ ?_⟩;(focus ((first|(exact rfl)|(obtain ⟨hb1,⟨p0,p1⟩,⟨q0,q1⟩⟩:=HOUT.out w1 hC;clear hC;go_simp;first|done|exact rfl));done));clear hK K))
      refine wpQuiet_nil ?_;intro wn hC;have HO:=aB (HOUT.out _ hC);clear hC HIN HOUT C;obtain ⟨hb1,⟨p0,p1⟩,⟨q0,q1⟩⟩:=HO.out
      go_wp2
      go_ret;exact ⟨aD HR.out.symm,HO.out.1⟩
  · have hke:k=A.length:=by omega
    subst hke;have HR:Hid (eqB A B=true):=aX (List.ext_getElem HAB.out fun j h1 h2=>HALL.out j h1 h1 h2);clear hb
    go_wp2
    go_ret;exact ⟨aD HR.out.symm,HB.out⟩
theorem SZ (ad bd:Option Addr) (n m ca cb:Nat) (h:n≠m) (w:World):
 Calls Tryz.prog 47 #[.slice ad n ca,.slice bd m cb] w fun e w'=>e= .returned (.bool false)∧Below w.heap.size w w':=by
 have hn:((n:Int)=(m:Int))=False:=by simp;omega
 go_enter Tryz.func47,Tryz.ntmps47
 go_wp2
 go_ret;exact ⟨rfl,Below.refl _ _⟩
theorem PathAt.el {w:World} {v:Value} {L:List ByteArray} (h:PathAt w v L):∃ ad cap,v= .slice ad L.length cap∧L.length≤cap∧∀ i (_:i<L.length),∃ g o,ad=some ⟨g,o,none⟩∧StIn w g (o+i) L[i]:=by
 obtain ⟨ad,cap,rfl,hc,hl⟩:=h;refine ⟨ad,cap,rfl,hc,fun i hi=> ?_⟩
 rcases hl with rfl|⟨g,o,e,hs⟩
 · cases hi
 · exact ⟨g,o,e,hs i hi⟩
theorem TA {A B:List ByteArray} {va vb:Value} {w:World} (ha:PathAt w va A) (hb:PathAt w vb B) (hsz:A.length≤9223372036854775807):
 Calls Tryz.prog 47 #[va,vb] w fun e w'=>e= .returned (.bool (eqB A B))∧Below w.heap.size w w':=by
 obtain ⟨ad,ca,rfl,_,hl⟩:=ha.el;obtain ⟨bd,cb,rfl,_,hm⟩:=hb.el
 by_cases hn:A.length=B.length
 · exact LV A B hn hsz ad bd ca cb w hl hm
 · rw [bX fun e=>hn (by rw [e])]
   exact SZ _ _ _ _ _ _ hn w
theorem Di {n:Nat} (h:n≤9223372036854775807):IntKind.i64.wrap (n:Int)=n:=by
 simp [IntKind.wrap,IntKind.bits,IntKind.signed];omega
def aO (L:List ByteArray):ByteArray:=⟨(aZ L).toArray⟩
theorem dQ (L:List ByteArray):(aO L).size=(aZ L).length:=by show (aZ L).toArray.size=_;simp
theorem GC (L:List ByteArray) (s:ByteArray):aO (L++[s])=aO L++fU++s:=by
 refine bC ?_;rw [ByteArray.toList_eq,ByteArray.toList_eq,cG,cG];simp [aO,oJ]
end Go.Proofs.YtmnhnofnlcbliaaGreatDoor
namespace Go.Proofs.YtmnhnofnlcbliaaGreatDoor.Sc
open Go.RowKit
set_option maxRecDepth 100000
def Fr (t:ByteArray) (most:Int) (vl vw vk vf:Value) (a:Act):Prop:=∃ (u2 u3 u4 u5 u6 u11 u12 u13 u14 u15 u16 u17 u18 u19 u20 u21 u22 u23 u24 u25 u26 u27 u28 u29 u30 u31 u32 u33 u34 u35 u36 u37 u38 u39 u40 u41 u42 u43 u44 u45 u46 u47 u48 u49 u50 u51 u52 u53 u54 u55 u56 u57 u58 u59 u60 u61 u62 u63 u64 u65 u66:Value),a={ tmps:= #[.string t,.int .i64 most,u2,u3,u4,u5,u6,vl,vw,vk,vf,u11,u12,u13,u14,u15,u16,u17,u18,u19,u20,u21,u22,u23,u24,u25,u26,u27,u28,u29,u30,u31,u32,u33,u34,u35,u36,u37,u38,u39,u40,u41,u42,u43,u44,u45,u46,u47,u48,u49,u50,u51,u52,u53,u54,u55,u56,u57,u58,u59,u60,u61,u62,u63,u64,u65,u66],defers:=[] }
def D4 (t:ByteArray) (w:World) (R:Except Nat (List (List Bs))) (l:Nat) (vl vw vf:Value) (k:Nat) (w':World):Prop:=
    ((l=0∧∃ ps,St w vl (.slice none 0 0) ps [] w'∧ps.length≤k∧bI (t.data.toList.drop k) [] [] (ps.map (·.2))=R)∨
     (l=1∧∃ ps ws,St w vl vw ps ws w'∧ps.length≤k∧ws.length≤k∧ws≠[]∧bI (t.data.toList.drop k) [] ws (ps.map (·.2))=R)∨
     (l=2∧∃ (f:Nat) (ps:List (Value×List Bs)) (ws:List Bs),vf= .int .i64 f∧f<k∧St w vl vw ps ws w'∧ps.length≤k∧ws.length≤k∧bI (t.data.toList.drop k) ((t.data.toList.take k).drop f) ws (ps.map (·.2))=R)∨
     (l=3∧∃ ps,LL w' w.heap.size vl ps∧ps.length≤k∧Below w.heap.size w w'∧R= .error (ps.length+1)))
def J4 (t:ByteArray) (most:Int) (w:World) (R:Except Nat (List (List Bs))) (l:Nat) (a:Act) (w':World):Prop:=
 ∃ (vl vw vf:Value) (k:Nat),Fr t most vl vw (.int .i64 k) vf a∧k≤t.size∧D4 t w R l vl vw vf k w'
def mu4 (t:ByteArray) (l:Nat) (a:Act) (_:World):Nat:=if l=3 then 0 else t.size+1 - (intOf (a.tmps.getD 9 undef)).toNat
theorem CH {t:ByteArray} {most:Int} {vl vw vf:Value} {k:Nat} {a:Act} {w:World} (h:Fr t most vl vw (.int .i64 k) vf a) {l:Nat} (hl:l≠3):mu4 t l a w=t.size+1 - k:=by
 obtain ⟨u2,u3,u4,u5,u6,u11,u12,u13,u14,u15,u16,u17,u18,u19,u20,u21,u22,u23,u24,u25,u26,u27,u28,u29,u30,u31,u32,u33,u34,u35,u36,u37,u38,u39,u40,u41,u42,u43,u44,u45,u46,u47,u48,u49,u50,u51,u52,u53,u54,u55,u56,u57,u58,u59,u60,u61,u62,u63,u64,u65,u66,rfl⟩:=h;unfold mu4;rw [if_neg hl];rfl
def Ft:Except Nat (List (List Bs))→Int
 | .ok _=>0
 | .error _=>22
def Fu:Except Nat (List (List Bs))→Nat
 | .ok _=>0
 | .error n=>n
def Fv:Except Nat (List (List Bs))→List (List Bs)
 | .ok L=>L
 | .error _=>[]
def Dj (w:World) (B:Nat) (v:Value) (L:List (List Bs)):Prop:=∃ ps,ps.map (·.2)=L∧LL w B v ps
def LinesP (w:World) (R:Except Nat (List (List Bs))) (e:Ending) (w':World):Prop:=∃ v,e= .returned (.tuple #[v,.int .i64 (Ft R),.int .i64 (Fu R:Int)])∧Dj w' w.heap.size v (Fv R)∧Below w.heap.size w w'
theorem LinesP.ok {w w':World} {R:Except Nat (List (List Bs))} {vl:Value} {ps:List (Value×List Bs)} (hR:R= .ok (ps.map (·.2))) (h:LL w' w.heap.size vl ps) (hb:Below w.heap.size w w'):LinesP w R (.returned (.tuple #[vl,.int .i64 0,.int .i64 0])) w':=by
 subst hR;exact ⟨vl,rfl,⟨ps,rfl,h⟩,hb⟩
theorem LinesP.no {w w':World} {R:Except Nat (List (List Bs))} {n:Nat} (hR:R= .error n) (hb:Below w.heap.size w w'):LinesP w R (.returned (.tuple #[.slice none 0 0,.int .i64 22,.int .i64 (n:Int)])) w':=by
 subst hR;exact ⟨_,rfl,⟨[],rfl,LL.nil _ _⟩,hb⟩
theorem tX {t:ByteArray} {k:Nat} (h:k<t.size):t.data.toList.drop k=t[k]::t.data.toList.drop (k+1):=List.drop_eq_getElem_cons (by rw [aI];exact h)
theorem jT {t:ByteArray} {f k:Nat} (h:k<t.size) (hf:f≤k):(t.data.toList.take (k+1)).drop f=(t.data.toList.take k).drop f++[t[k]]:=by
 rw [List.take_succ_eq_append_getElem (by rw [aI];exact h),List.drop_append_of_le_length (by rw [List.length_take,aI];omega)];rfl
theorem Ek {t:ByteArray} {f k:Nat} (h:k≤t.size) (hf:f<k):(t.data.toList.take k).drop f≠[]:=by
 intro e
 have:=congrArg List.length e
 rw [List.length_drop,List.length_take,aI] at this
 simp at this
 omega
theorem PK (t:ByteArray) (k:Nat):(t.data.toList.take k).drop k=[]:=List.drop_of_length_le (by rw [List.length_take];omega)
theorem vR {t:ByteArray} {k:Nat} (h:¬ k<t.size):t.data.toList.drop k=[]:=List.drop_of_length_le (by rw [aI];omega)
theorem qC {t:ByteArray} {most:Int} {w w':World} {R:Except Nat (List (List Bs))} {vl vw vf:Value} {a:Act} {k k' l N:Nat} (hF:Fr t most vl vw (.int .i64 (k':Nat)) vf a) (hl:l≠3) (hN:N=t.size+1 - k) (hk:k<k') (hk':k'≤t.size) (h:D4 t w R l vl vw vf k' w'):J4 t most w R l a w'∧mu4 t l a w'<N:=
 ⟨⟨vl,vw,vf,k',hF,hk',h⟩,by rw [CH hF hl,hN];omega⟩
theorem lN {t:ByteArray} {most:Int} {w w':World} {R:Except Nat (List (List Bs))} {vl vw vf:Value} {a:Act} {k k' N:Nat} {ps:List (Value×List Bs)} (hF:Fr t most vl vw (.int .i64 (k':Nat)) vf a) (hN:N=t.size+1 - k) (hk:k≤t.size) (hk':k'≤t.size) (h:LL w' w.heap.size vl ps) (hp:ps.length≤k') (hb:Below w.heap.size w w') (hR:R= .error (ps.length+1)):J4 t most w R 3 a w'∧mu4 t 3 a w'<N:=
 ⟨⟨vl,vw,vf,k',hF,hk',Or.inr (Or.inr (Or.inr ⟨rfl,ps,h,hp,hb,hR⟩))⟩,by show (if 3=3 then 0 else _)<N;rw [if_pos rfl];omega⟩
theorem Bc {w:World} {B:Nat} {v:Value} {ws:List Bs} (h:OwnW w B v ws):v.oneCell'=true:=by
 rcases h.2 with ⟨rfl,_⟩|⟨g,cap,cur,rfl,_⟩<;>rfl
theorem vS {w:World} {B:Nat} {v:Value} {ws:List Bs} {x:Bs} (h:OwnW w B v (ws++[x])):∃ g cap,v= .slice (some ⟨g,0,none⟩) (ws.length+1) cap:=by
 rcases h.2 with ⟨_,h0⟩|⟨g,cap,cur,rfl,_⟩
 · simp at h0
 · exact ⟨g,cap,by simp⟩
set_option maxHeartbeats 6400000 in
theorem LW (t:ByteArray) (hs:t.size≤4194304) (most:Int) (hm:¬ most<(t.size:Int)) (w:World)
 (HC:Hid (∀ s:ByteArray,s.size≤4194304→∀ w1,Calls Tryz.prog 109 #[.string s] w1 fun e w'=>e= .returned (.string s)∧Below w1.heap.size w1 w')):
 Calls Tryz.prog 138 #[.string t,.int .i64 most] w (LinesP w (bI t.data.toList [] [] [])):=by
 obtain ⟨R,hR⟩:∃ R,R=bI t.data.toList [] [] []:=⟨_,rfl⟩;rw [←hR];have HR:=aB hR;clear hR;obtain ⟨i0,hi,hz0,hz1,hz2⟩:=bK mX;obtain ⟨i1,hj,hy0,hy1,hy2⟩:=bK DR
 go_enter Tryz.func138,Tryz.ntmps138
 go_wp2
 refine nV (J4 t most w R) (mu4 t) ?_ ?_
 · by_cases h0:t.size=0
   · have hR:R= .ok []:=by rw [HR.out,show t.data.toList=[] from List.eq_nil_of_length_eq_zero h0];rfl
     have e0:((0:Int)==(t.size:Int))=true:=by rw [h0];rfl
     go_wp2
     go_step3
     go_wp2
     simp only [kK];go_ret3;exact LinesP.ok (ps:=[]) hR (LL.nil _ _) (Below.refl _ _)
   · have e0:((0:Int)==(t.size:Int))=false:=by rw [beq_eq_false_iff_ne];omega
     have hlt:0<t.size:=by omega
     have HW:=aB (gF t[0]);have hd:=tX hlt;rw [List.drop_zero] at hd;cases hw:wB t[0]
     · have HJ:Hid (R= .error 1):=by unfold Hid;rw [HR.out,hd,rC hw];rfl
       rw [hw] at HW;clear hd hw h0 HR
       go_wp2
       go_step3
       go_wp2
       go_step3
       go_wp2
       go_step3
       go_wp2_with (go_at_call 183;refine (HW.out _).mono ?_;rintro e wx ⟨rfl,hwx⟩;subst hwx)
       go_step3
       (try simp only [Exit.then]);(try simp only [Exit.inBlock]);(try simp only [cY])
       exact ⟨_,_,_,0,⟨_,_,_,_,_,_,_,_,_,_,_,_,_,_,_,_,_,_,_,_,_,_,_,_,_,_,_,_,_,_,_,_,_,_,_,_,_,_,_,_,_,_,_,_,_,_,_,_,_,_,_,_,_,_,_,_,_,_,_,_,_,rfl⟩,Nat.zero_le _,Or.inr (Or.inr (Or.inr ⟨rfl,[],LL.nil _ _,Nat.le_refl _,Below.refl _ _,HJ.out⟩))⟩
     · have HJ:Hid (bI (t.data.toList.drop 1) ((t.data.toList.take 1).drop 0) [] []=R):=by
        unfold Hid;rw [jT hlt (Nat.le_refl 0),HR.out,hd,BG hw]
        simp
       rw [hw] at HW;clear hd hw h0 HR
       go_wp2
       go_step3
       go_wp2
       go_step3
       go_wp2
       go_step3
       go_wp2_with (go_at_call 183;refine (HW.out _).mono ?_;rintro e wx ⟨rfl,hwx⟩;subst hwx)
       go_step3
       (try simp only [Exit.then]);(try simp only [Exit.inBlock]);(try simp only [cY])
       exact ⟨_,_,_,1,⟨_,_,_,_,_,_,_,_,_,_,_,_,_,_,_,_,_,_,_,_,_,_,_,_,_,_,_,_,_,_,_,_,_,_,_,_,_,_,_,_,_,_,_,_,_,_,_,_,_,_,_,_,_,_,_,_,_,_,_,_,_,rfl⟩,by omega,Or.inr (Or.inr (Or.inl ⟨rfl,0,[],[],rfl,by omega,St.start _,by simp,by simp,HJ.out⟩))⟩
 · rintro l a w' ⟨vl,vw,vf,k,hF,hk,hD⟩
   clear HR
   rcases hD with ⟨rfl,ps,hst,hpl,hsc⟩|⟨rfl,ps,ws,hst,hpl,hwl,hne,hsc⟩|⟨rfl,f,ps,ws,rfl,hfk,hst,hpl,hwl,hsc⟩|⟨rfl,ps,hll,hpl,hb,hR⟩
   ·
    have HO:=aB hst;clear hst;refine ⟨_,rfl,?_⟩;obtain ⟨N,hN⟩:∃ N,N=mu4 t 0 a w':=⟨_,rfl⟩;rw [←hN];rw [CH hF (by decide)] at hN;have HN:=aB hN;clear hN;obtain ⟨u2,u3,u4,u5,u6,u11,u12,u13,u14,u15,u16,u17,u18,u19,u20,u21,u22,u23,u24,u25,u26,u27,u28,u29,u30,u31,u32,u33,u34,u35,u36,u37,u38,u39,u40,u41,u42,u43,u44,u45,u46,u47,u48,u49,u50,u51,u52,u53,u54,u55,u56,u57,u58,u59,u60,u61,u62,u63,u64,u65,u66,rfl⟩:=hF
    by_cases hlt:k<t.size
    · have e0:((k:Int)==(t.size:Int))=false:=by rw [beq_eq_false_iff_ne];omega
      have HW:=aB (gF t[k]);have hd:=tX hlt;cases hw:wB t[k]
      · have HJ:Hid (R= .error (ps.length+1)):=by unfold Hid;rw [←hsc,hd,rC hw];simp
        rw [hw] at HW;clear hd hw hsc
        go_wp2
        go_step3
        go_wp2
        go_step3
        go_wp2_with (go_at_call 183;refine (HW.out _).mono ?_;rintro e wx ⟨rfl,hwx⟩;subst hwx)
        go_step3
        (try simp only [Exit.then]);(try simp only [Exit.inBlock]);(try simp only [cY])
        exact lN (k':=k) ⟨_,_,_,_,_,_,_,_,_,_,_,_,_,_,_,_,_,_,_,_,_,_,_,_,_,_,_,_,_,_,_,_,_,_,_,_,_,_,_,_,_,_,_,_,_,_,_,_,_,_,_,_,_,_,_,_,_,_,_,_,_,rfl⟩ HN.out hk hk HO.out.1 hpl HO.out.2.2.2.2 HJ.out
      · have HJ:Hid (bI (t.data.toList.drop (k+1)) ((t.data.toList.take (k+1)).drop k) [] (ps.map (·.2))=R):=by
         unfold Hid;rw [jT hlt (Nat.le_refl k),PK,←hsc,hd,BG hw]
        rw [hw] at HW;clear hd hw hsc
        go_wp2
        go_step3
        go_wp2
        go_step3
        go_wp2_with (go_at_call 183;refine (HW.out _).mono ?_;rintro e wx ⟨rfl,hwx⟩;subst hwx)
        go_step3
        (try simp only [Exit.then]);(try simp only [Exit.inBlock]);(try simp only [cY])
        exact qC (k':=k+1) ⟨_,_,_,_,_,_,_,_,_,_,_,_,_,_,_,_,_,_,_,_,_,_,_,_,_,_,_,_,_,_,_,_,_,_,_,_,_,_,_,_,_,_,_,_,_,_,_,_,_,_,_,_,_,_,_,_,_,_,_,_,_,rfl⟩ (by decide) HN.out (by omega) (by omega) (Or.inr (Or.inr (Or.inl ⟨rfl,k,ps,[],rfl,by omega,HO.out,by omega,by simp,HJ.out⟩)))
    · have e0:((k:Int)==(t.size:Int))=true:=by rw [beq_iff_eq];omega
      have HJ:Hid (R= .ok (ps.map (·.2))):=by unfold Hid;rw [←hsc,vR hlt];rfl
      clear hsc
      go_wp2
      simp only [kK];go_ret3;exact LinesP.ok HJ.out HO.out.1 HO.out.2.2.2.2
   ·
    have HO:=aB hst;clear hst;refine ⟨_,rfl,?_⟩;obtain ⟨N,hN⟩:∃ N,N=mu4 t 1 a w':=⟨_,rfl⟩;rw [←hN];rw [CH hF (by decide)] at hN;have HN:=aB hN;clear hN;obtain ⟨u2,u3,u4,u5,u6,u11,u12,u13,u14,u15,u16,u17,u18,u19,u20,u21,u22,u23,u24,u25,u26,u27,u28,u29,u30,u31,u32,u33,u34,u35,u36,u37,u38,u39,u40,u41,u42,u43,u44,u45,u46,u47,u48,u49,u50,u51,u52,u53,u54,u55,u56,u57,u58,u59,u60,u61,u62,u63,u64,u65,u66,rfl⟩:=hF
    by_cases hlt:k<t.size
    · have e0:((k:Int)==(t.size:Int))=false:=by rw [beq_eq_false_iff_ne];omega
      have HW:=aB (gF t[k]);have hd:=tX hlt;cases hw:wB t[k]
      · have HJ:Hid (R= .error (ps.length+1)):=by unfold Hid;rw [←hsc,hd,rC hw];simp
        rw [hw] at HW;clear hd hw hsc hne
        go_wp2
        go_step3
        go_wp2_with (go_at_call 183;refine (HW.out _).mono ?_;rintro e wx ⟨rfl,hwx⟩;subst hwx)
        go_step3
        (try simp only [Exit.then]);(try simp only [Exit.inBlock]);(try simp only [cY])
        exact lN (k':=k) ⟨_,_,_,_,_,_,_,_,_,_,_,_,_,_,_,_,_,_,_,_,_,_,_,_,_,_,_,_,_,_,_,_,_,_,_,_,_,_,_,_,_,_,_,_,_,_,_,_,_,_,_,_,_,_,_,_,_,_,_,_,_,rfl⟩ HN.out hk hk HO.out.1 hpl HO.out.2.2.2.2 HJ.out
      · have HJ:Hid (bI (t.data.toList.drop (k+1)) ((t.data.toList.take (k+1)).drop k) ws (ps.map (·.2))=R):=by
         unfold Hid;rw [jT hlt (Nat.le_refl k),PK,←hsc,hd,BG hw]
        rw [hw] at HW;clear hd hw hsc hne
        go_wp2
        go_step3
        go_wp2_with (go_at_call 183;refine (HW.out _).mono ?_;rintro e wx ⟨rfl,hwx⟩;subst hwx)
        go_step3
        (try simp only [Exit.then]);(try simp only [Exit.inBlock]);(try simp only [cY])
        exact qC (k':=k+1) ⟨_,_,_,_,_,_,_,_,_,_,_,_,_,_,_,_,_,_,_,_,_,_,_,_,_,_,_,_,_,_,_,_,_,_,_,_,_,_,_,_,_,_,_,_,_,_,_,_,_,_,_,_,_,_,_,_,_,_,_,_,_,rfl⟩ (by decide) HN.out (by omega) (by omega) (Or.inr (Or.inr (Or.inl ⟨rfl,k,ps,ws,rfl,by omega,HO.out,by omega,by omega,HJ.out⟩)))
    · have e0:((k:Int)==(t.size:Int))=true:=by rw [beq_iff_eq];omega
      have HJ:Hid (R= .error (ps.length+1)):=by unfold Hid;rw [←hsc,vR hlt,DP (Or.inr hne)];simp
      clear hsc hne
      go_wp2
      go_step3
      go_wp2
      go_step3
      (try simp only [Exit.then]);(try simp only [Exit.inBlock]);(try simp only [cY])
      exact lN (k':=k) ⟨_,_,_,_,_,_,_,_,_,_,_,_,_,_,_,_,_,_,_,_,_,_,_,_,_,_,_,_,_,_,_,_,_,_,_,_,_,_,_,_,_,_,_,_,_,_,_,_,_,_,_,_,_,_,_,_,_,_,_,_,_,rfl⟩ HN.out hk hk HO.out.1 hpl HO.out.2.2.2.2 HJ.out
   ·
    have HO:=aB hst;clear hst;refine ⟨_,rfl,?_⟩;obtain ⟨N,hN⟩:∃ N,N=mu4 t 2 a w':=⟨_,rfl⟩;rw [←hN];rw [CH hF (by decide)] at hN;have HN:=aB hN;clear hN;obtain ⟨u2,u3,u4,u5,u6,u11,u12,u13,u14,u15,u16,u17,u18,u19,u20,u21,u22,u23,u24,u25,u26,u27,u28,u29,u30,u31,u32,u33,u34,u35,u36,u37,u38,u39,u40,u41,u42,u43,u44,u45,u46,u47,u48,u49,u50,u51,u52,u53,u54,u55,u56,u57,u58,u59,u60,u61,u62,u63,u64,u65,u66,rfl⟩:=hF;have ef:((k:Int)==(f:Int))=false:=by rw [beq_eq_false_iff_ne];omega
    have hcn:=Ek hk hfk
    by_cases hlt:k<t.size
    · have e0:((k:Int)==(t.size:Int))=false:=by rw [beq_eq_false_iff_ne];omega
      have HW:=aB (gF t[k]);have hd:=tX hlt;cases hw:wB t[k]
      · rw [hw] at HW
        by_cases h32:t[k]=32
        · have HJ:Hid (bI (t.data.toList.drop (k+1)) [] (ws++[(t.data.toList.take k).drop f]) (ps.map (·.2))=R):=by
           unfold Hid;rw [←hsc,hd,h32,Ab hcn]
          have e32:((t[k].toNat:Int)==32)=true:=by rw [h32];rfl
          clear hd hw hsc h32 hcn
          go_wp2_with (first|(go_at_call 183;refine (HW.out _).mono ?_;rintro e wx ⟨rfl,hwx⟩;subst hwx)|(go_at_call 109;refine (HC.out _ (by rw [ByteArray.size_extract];omega) _).mono ?_;rintro e w1 ⟨rfl,hb1⟩;have HO1:=aB (HO.out.below hb1);clear hb1)|(have _h:=HO1;at_builtin;refine wpList_append_own_at _ rfl _ _ 50 rfl w.heap.size 9 i0 _ 1 16 Tryz.underlying50 hi hz0 hz1 hz2 rfl (by decide) _ _ _ rfl (HO1.out.2.1.alloc _) ⟨w1.heap.size,0,none⟩ 1 1 [.string (t.extract f k)] rfl rfl (cell_one_new _ _ _) (by simp [Value.oneCell']) (by unfold maxLen;omega) (by omega) (by have:=HO1.out.2.2.2.2.size;simp;omega) ?_;intro v2 w2 hown2 hg2 hnil2 hat2;have HO2:Hid (St w vl v2 ps (ws++[(t.data.toList.take k).drop f]) w2):=St.word _ (HO1.out.below (aC _ _)) (by rw [gP] at hown2;exact hown2) hg2 hat2;clear hown2 hg2 hnil2 hat2 HO1;obtain ⟨g2,cap2,rfl⟩:=vS HO2.out.2.1;go_frame))
          go_step3
          (try simp only [Exit.then]);(try simp only [Exit.inBlock]);(try simp only [cY])
          exact qC (k':=k+1) ⟨_,_,_,_,_,_,_,_,_,_,_,_,_,_,_,_,_,_,_,_,_,_,_,_,_,_,_,_,_,_,_,_,_,_,_,_,_,_,_,_,_,_,_,_,_,_,_,_,_,_,_,_,_,_,_,_,_,_,_,_,_,rfl⟩ (by decide) HN.out (by omega) (by omega) (Or.inr (Or.inl ⟨rfl,ps,_,HO2.out,by omega,by simp;omega,by simp,HJ.out⟩))
        · have e32:((t[k].toNat:Int)==32)=false:=by rw [beq_eq_false_iff_ne];intro e;exact h32 (UInt8.toNat_inj.1 (by show t[k].toNat=32;omega))
          by_cases h10:t[k]=10
          · have HJ:Hid (bI (t.data.toList.drop (k+1)) [] [] ((ps.map (·.2))++[ws++[(t.data.toList.take k).drop f]])=R):=by
             unfold Hid;rw [←hsc,hd,h10,Ac hcn]
            have e10:((t[k].toNat:Int)==10)=true:=by rw [h10];rfl
            clear hd hw hsc h32 h10 hcn
            go_wp2_with (first|(go_at_call 183;refine (HW.out _).mono ?_;rintro e wx ⟨rfl,hwx⟩;subst hwx)|(go_at_call 109;refine (HC.out _ (by rw [ByteArray.size_extract];omega) _).mono ?_;rintro e w1 ⟨rfl,hb1⟩;have HO1:=aB (HO.out.below hb1);clear hb1)|(have _h:=HO1;at_builtin;refine wpList_append_own_at _ rfl _ _ 50 rfl w.heap.size 9 i0 _ 1 16 Tryz.underlying50 hi hz0 hz1 hz2 rfl (by decide) _ _ _ rfl (HO1.out.2.1.alloc _) ⟨w1.heap.size,0,none⟩ 1 1 [.string (t.extract f k)] rfl rfl (cell_one_new _ _ _) (by simp [Value.oneCell']) (by unfold maxLen;omega) (by omega) (by have:=HO1.out.2.2.2.2.size;simp;omega) ?_;intro v2 w2 hown2 hg2 hnil2 hat2;have HO2:Hid (St w vl v2 ps (ws++[(t.data.toList.take k).drop f]) w2):=St.word _ (HO1.out.below (aC _ _)) (by rw [gP] at hown2;exact hown2) hg2 hat2;clear hown2 hg2 hnil2 hat2 HO1;obtain ⟨g2,cap2,rfl⟩:=vS HO2.out.2.1;go_frame)|(have _h:=HO2;at_builtin;refine wpList_append_own_at _ rfl _ _ 151 rfl w.heap.size 50 i1 _ 1 24 Tryz.underlying151 hj hy0 hy1 hy2 rfl (by decide) _ _ _ rfl (HO2.out.1.1.alloc _) ⟨w2.heap.size,0,none⟩ 1 1 [.slice (some ⟨g2,0,none⟩) (ws.length+1) cap2] rfl rfl (cell_one_new _ _ _) (by intro u hu;rw [List.mem_singleton.1 hu];exact Bc HO2.out.2.1) (by unfold maxLen;omega) (by omega) (by have:=HO2.out.2.2.2.2.size;simp;omega) ?_;intro v3 w3 hown3 hg3 hnil3 hat3;have HO3:Hid (St w v3 (.slice none 0 0) (ps++[(.slice (some ⟨g2,0,none⟩) (ws.length+1) cap2,ws++[(t.data.toList.take k).drop f])]) [] w3):=St.line (HO2.out.below (aC _ _)) (by simp) hown3 hg3 hat3;clear hown3 hg3 hnil3 hat3;go_frame))
            go_step3
            (try simp only [Exit.then]);(try simp only [Exit.inBlock]);(try simp only [cY])
            exact qC (k':=k+1) ⟨_,_,_,_,_,_,_,_,_,_,_,_,_,_,_,_,_,_,_,_,_,_,_,_,_,_,_,_,_,_,_,_,_,_,_,_,_,_,_,_,_,_,_,_,_,_,_,_,_,_,_,_,_,_,_,_,_,_,_,_,_,rfl⟩ (by decide) HN.out (by omega) (by omega) (Or.inl ⟨rfl,_,HO3.out,by simp;omega,by rw [List.map_append];exact HJ.out⟩)
          · have HJ:Hid (R= .error (ps.length+1)):=by unfold Hid;rw [←hsc,hd,VC hw h32 h10];simp
            have e10:((t[k].toNat:Int)==10)=false:=by rw [beq_eq_false_iff_ne];intro e;exact h10 (UInt8.toNat_inj.1 (by show t[k].toNat=10;omega))
            clear hd hw hsc h32 h10 hcn
            go_wp2_with (first|(go_at_call 183;refine (HW.out _).mono ?_;rintro e wx ⟨rfl,hwx⟩;subst hwx)|(go_at_call 109;refine (HC.out _ (by rw [ByteArray.size_extract];omega) _).mono ?_;rintro e w1 ⟨rfl,hb1⟩;have HO1:=aB (HO.out.below hb1);clear hb1)|(have _h:=HO1;at_builtin;refine wpList_append_own_at _ rfl _ _ 50 rfl w.heap.size 9 i0 _ 1 16 Tryz.underlying50 hi hz0 hz1 hz2 rfl (by decide) _ _ _ rfl (HO1.out.2.1.alloc _) ⟨w1.heap.size,0,none⟩ 1 1 [.string (t.extract f k)] rfl rfl (cell_one_new _ _ _) (by simp [Value.oneCell']) (by unfold maxLen;omega) (by omega) (by have:=HO1.out.2.2.2.2.size;simp;omega) ?_;intro v2 w2 hown2 hg2 hnil2 hat2;have HO2:Hid (St w vl v2 ps (ws++[(t.data.toList.take k).drop f]) w2):=St.word _ (HO1.out.below (aC _ _)) (by rw [gP] at hown2;exact hown2) hg2 hat2;clear hown2 hg2 hnil2 hat2 HO1;obtain ⟨g2,cap2,rfl⟩:=vS HO2.out.2.1;go_frame))
            go_step3
            obtain ⟨ad,cap,rfl⟩:=HO2.out.1.len
            go_wp2
            simp only [kK];go_ret3;exact LinesP.no HJ.out HO2.out.2.2.2.2
      · have HJ:Hid (bI (t.data.toList.drop (k+1)) ((t.data.toList.take (k+1)).drop f) ws (ps.map (·.2))=R):=by
         unfold Hid;rw [jT hlt (Nat.le_of_lt hfk),←hsc,hd,BG hw]
        rw [hw] at HW;clear hd hw hsc hcn
        go_wp2_with (go_at_call 183;refine (HW.out _).mono ?_;rintro e wx ⟨rfl,hwx⟩;subst hwx)
        go_step3
        (try simp only [Exit.then]);(try simp only [Exit.inBlock]);(try simp only [cY])
        exact qC (k':=k+1) ⟨_,_,_,_,_,_,_,_,_,_,_,_,_,_,_,_,_,_,_,_,_,_,_,_,_,_,_,_,_,_,_,_,_,_,_,_,_,_,_,_,_,_,_,_,_,_,_,_,_,_,_,_,_,_,_,_,_,_,_,_,_,rfl⟩ (by decide) HN.out (by omega) (by omega) (Or.inr (Or.inr (Or.inl ⟨rfl,f,ps,ws,rfl,by omega,HO.out,by omega,by omega,HJ.out⟩)))
    · have e0:((k:Int)==(t.size:Int))=true:=by rw [beq_iff_eq];omega
      have HJ:Hid (R= .error (ps.length+1)):=by unfold Hid;rw [←hsc,vR hlt,DP (Or.inl hcn)];simp
      clear hsc hcn
      go_wp2
      go_step3
      (try simp only [Exit.then]);(try simp only [Exit.inBlock]);(try simp only [cY])
      exact lN (k':=k) ⟨_,_,_,_,_,_,_,_,_,_,_,_,_,_,_,_,_,_,_,_,_,_,_,_,_,_,_,_,_,_,_,_,_,_,_,_,_,_,_,_,_,_,_,_,_,_,_,_,_,_,_,_,_,_,_,_,_,_,_,_,_,rfl⟩ HN.out hk hk HO.out.1 hpl HO.out.2.2.2.2 HJ.out
   ·
    refine ⟨_,rfl,?_⟩;obtain ⟨u2,u3,u4,u5,u6,u11,u12,u13,u14,u15,u16,u17,u18,u19,u20,u21,u22,u23,u24,u25,u26,u27,u28,u29,u30,u31,u32,u33,u34,u35,u36,u37,u38,u39,u40,u41,u42,u43,u44,u45,u46,u47,u48,u49,u50,u51,u52,u53,u54,u55,u56,u57,u58,u59,u60,u61,u62,u63,u64,u65,u66,rfl⟩:=hF;obtain ⟨ad,cap,rfl⟩:=hll.len;have HR:=aB hR;have HB:=aB hb;clear hR hb hll
    go_wp2
    simp only [kK];go_ret3;exact LinesP.no HR.out HB.out
theorem zX (s:ByteArray) (hs:s.size≤281474976710656) (w:World):Calls Tryz.prog 109 #[.string s] w fun e w'=>e= .returned (.string s)∧Below w.heap.size w w':=by
 have HC:=aB (Tryz.stringslite_Clone s w hs)
 go_enter Tryz.func109,Tryz.ntmps109
 go_wp2_with (go_at_call 155;refine HC.out.mono ?_;rintro e w1 ⟨rfl,hb⟩;have HB:=aB hb;clear hb)
 go_ret;exact ⟨rfl,HB.out⟩
def eA (t:ByteArray) (most:Int):Int:=if most<(t.size:Int) then 25 else Ft (bI t.data.toList [] [] [])
def TB (t:ByteArray) (most:Int):Nat:=if most<(t.size:Int) then 0 else Fu (bI t.data.toList [] [] [])
def cB (t:ByteArray) (most:Int):List (List Bs):=if most<(t.size:Int) then [] else Fv (bI t.data.toList [] [] [])
def CI (w:World) (e1:Int) (n:Nat) (L:List (List Bs)) (e:Ending) (w':World):Prop:=∃ v,e= .returned (.tuple #[v,.int .i64 e1,.int .i64 (n:Int)])∧Dj w' w.heap.size v L∧Below w.heap.size w w'
theorem rS (t:ByteArray) (most:Int) (hm:most<(t.size:Int)) (w:World):Calls Tryz.prog 138 #[.string t,.int .i64 most] w (CI w 25 0 []):=by
 go_enter Tryz.func138,Tryz.ntmps138
 go_wp2
 go_step3
 go_wp2
 rw [Exit.noGoto_ret];go_ret3;exact ⟨_,rfl,⟨[],rfl,LL.nil _ _⟩,Below.refl _ _⟩
theorem zY (t:ByteArray) (hs:t.size≤4194304) (most:Int) (w:World):Calls Tryz.prog 138 #[.string t,.int .i64 most] w (CI w (eA t most) (TB t most) (cB t most)):=by
 unfold eA TB cB
 by_cases h:most<(t.size:Int)
 · rw [if_pos h,if_pos h,if_pos h];exact rS t most h w
 · rw [if_neg h,if_neg h,if_neg h];exact LW t hs most h w (fun s h1 w1=>zX s (by omega) w1)
end Go.Proofs.YtmnhnofnlcbliaaGreatDoor.Sc
namespace Go.Proofs.YtmnhnofnlcbliaaGreatDoor
open Go.RowKit
set_option maxRecDepth 100000
def iM:List UInt8:=fU.data.toList
theorem GD:iM.length=9:=rfl
def bD (r:List UInt8):List UInt8:=r.takeWhile fun b=>b != 47
theorem vT (r:List UInt8):r.take (bD r).length=bD r:=(List.prefix_iff_eq_take.1 (List.takeWhile_prefix _)).symm
theorem TC {a r:List UInt8} (h:(47:UInt8) ∉ a) (hr:r=[]∨∃ t,r=47::t):bD (a++r)=a:=by
 unfold bD;rw [List.takeWhile_append_of_pos (fun x hx=>by rw [bne_iff_ne];exact fun e=>h (e ▸ hx))]
 rcases hr with rfl|⟨t,rfl⟩<;>simp
def fG (r:List UInt8):Option (List ByteArray):=
 if r=[] then some []
 else if iM.isPrefixOf r=true∧Sc.aK (bD (r.drop 9))=true then (fG ((r.drop 9).drop (bD (r.drop 9)).length)).map fun L=>Sc.ba (bD (r.drop 9))::L
 else none
termination_by r.length
decreasing_by
 have:0<r.length:=List.length_pos_iff.2 ‹_›
 simp only [List.length_drop];omega
theorem rT:fG []=some []:=by rw [fG];simp
theorem vU {r:List UInt8} (h0:r≠[]) (h:¬ (iM.isPrefixOf r=true∧Sc.aK (bD (r.drop 9))=true)):fG r=none:=by rw [fG,if_neg h0,if_neg h]
theorem vV {r:List UInt8} (h0:r≠[]) (h1:iM.isPrefixOf r=true) (h2:Sc.aK (bD (r.drop 9))=true):fG r=(fG ((r.drop 9).drop (bD (r.drop 9)).length)).map fun L=>Sc.ba (bD (r.drop 9))::L:=by rw [fG,if_neg h0,if_pos ⟨h1,h2⟩]
def cI (t:List UInt8):Option (List ByteArray):=if t=[47] then some [] else if t=[] then none else fG t
theorem vW {s:List UInt8} (h:Sc.aK s=true):(47:UInt8) ∉ s:=fun q=>by
 unfold Sc.aK at h;rw [Bool.and_eq_true,Bool.and_eq_true,List.all_eq_true] at h;exact absurd (h.1.2 _ q) (by decide)
theorem zZ {s:List UInt8} (h:Sc.aK s=true):0<s.length:=by
 cases s with
 |nil=>cases h
 |cons _ _=>simp
theorem GE:∀ l:List UInt8,(Lib.indexByte l 47= -1∧bD l=l)∨(Lib.indexByte l 47=((bD l).length:Int)∧(bD l).length<l.length)
 |[]=>Or.inl ⟨rfl,rfl⟩
 |b::l=>by
  by_cases hb:b=47
  · subst hb
    exact Or.inr ⟨rfl,by simp [bD]⟩
  · have e:bD (b::l)=b::bD l:=by unfold bD;rw [List.takeWhile_cons_of_pos (by simpa using hb)]
    have hb2:(b==47)=false:=by simpa using hb
    unfold Lib.indexByte;rw [e,hb2]
    rcases GE l with ⟨h1,h2⟩|⟨h1,h2⟩
    · exact Or.inl ⟨by rw [h1];rfl,by rw [h2]⟩
    · refine Or.inr ⟨?_,by simpa using h2⟩
      have:(Lib.indexByte l 47== -1)=false:=by rw [h1,beq_eq_false_iff_ne];omega
      rw [this,h1]
      simp
set_option maxHeartbeats 1600000 in
theorem XE (s:ByteArray) (hsz:s.size≤9223372036854775807) (w:World):Calls Tryz.prog 196 #[.string s,.string ⟨#[47]⟩] w fun e w'=>∃ x y,e= .returned (.tuple #[.string (Sc.ba (bD s.data.toList)),.string x,.bool y])∧Below w.heap.size w w':=by
 have HI:=aB (Tryz.stringslite_Index_one s 47 w)
 rcases GE s.data.toList with ⟨e1,e2⟩|⟨e1,e2⟩
 · have HS:Hid (Sc.ba (bD s.data.toList)=s):=by unfold Hid;rw [e2];rfl
   rw [e1] at HI;clear e1 e2;rw [HS.out]
   go_enter Tryz.func196,Tryz.ntmps196
   go_wp2_with (go_at_call 238;refine HI.out.mono ?_;rintro e w1 ⟨rfl,rfl⟩)
   go_ret3;exact ⟨_,_,rfl,Below.refl _ _⟩
 · rw [e1] at HI
   have HS:Hid (s.extract 0 (bD s.data.toList).length=Sc.ba (bD s.data.toList)):=by unfold Hid;rw [Sc.gP,List.drop_zero,vT]
   rw [aI] at e2;rw [←HS.out];clear e1 HS;generalize (bD s.data.toList).length=i at*;have c1:(0:Int)≤ ↑i:=by omega
   have c2:(↑i:Int)≤ ↑s.size:=by omega
   have c3:(0:Int)≤ ↑i+1:=by omega
   have c4:(↑i+1:Int)≤ ↑s.size:=by omega
   have hw:IntKind.i64.wrap ((i:Int)+1)=(i:Int)+1:=by simpa using Di (n:=i+1) (by omega)
   have c5:i≤s.size:=by omega
   have c6:i+1≤s.size:=by omega
   have HK:Hid (KeepP fun w1=>Below w.heap.size w w1):=aG w;have HO:Hid (Below w.heap.size w w):=Below.refl _ _
   go_enter Tryz.func196,Tryz.ntmps196
   go_wp2_with (go_at_call 238;refine HI.out.mono ?_;rintro e w1 ⟨rfl,rfl⟩)
   refine cE HK (by kernel_rfl) (by kernel_rfl) (by first|exact HO.out|exact HK.out.drew HO.out) ?_;intro C HIN HOUT;clear HO
   repeat
    (with_reducible refine wpQuiet_step (fun K hK=> ?_)
     go_simp
     first
      |(refine hK _ ?_;clear hK K)
      |(apply Exists.intro;refine ⟨fun w1 hC=> ?_,hK _ ?_⟩;(focus ((first|(exact rfl)|(obtain hb1:=HOUT.out w1 hC;clear hC;go_simp;first|done|exact rfl));done));clear hK K))
   refine wpQuiet_nil ?_;intro wn hC;have HO:=aB (HOUT.out _ hC);clear hC HIN HOUT C;obtain hb1:=HO.out
   go_wp2
   go_ret3;exact ⟨_,_,rfl,HO.out⟩
theorem PL (s:ByteArray) (hsz:s.size≤9223372036854775807) (w:World):Calls Tryz.prog 154 #[.string s,.string ⟨#[47]⟩] w fun e w'=>∃ x y,e= .returned (.tuple #[.string (Sc.ba (bD s.data.toList)),.string x,.bool y])∧Below w.heap.size w w':=by
 have HC:=aB (XE s hsz w)
 go_enter Tryz.func154,Tryz.ntmps154
 go_wp2_with (go_at_call 196;refine HC.out.mono ?_;rintro e w1 ⟨x,y,rfl,ok⟩;have HB:=aB ok;clear ok)
 go_ret3;exact ⟨_,_,rfl,HB.out⟩
set_option maxHeartbeats 1600000 in
theorem TD (r:ByteArray) (hsz:r.size≤9223372036854775807) (hp:iM.isPrefixOf r.data.toList=true) (w:World):Calls Tryz.prog 108 #[.string r] w fun e w'=>e= .returned (.tuple #[.string (Sc.ba (bD (r.data.toList.drop 9))),.bool (Sc.aK (bD (r.data.toList.drop 9)))])∧Below w.heap.size w w':=by
 have HP:Hid (∀ w1,Calls Tryz.prog 153 #[.string r,.string ⟨#[47,109,111,100,117,108,101,115,47]⟩] w1 fun e w'=>e= .returned (.tuple #[.string ⟨(r.data.toList.drop 9).toArray⟩,.bool true])∧w'=w1):=fun w1=>by
  have h:=Tryz.strings_CutPrefix r ⟨#[47,109,111,100,117,108,101,115,47]⟩ w1;have e1:Lib.hasPrefix r.data.toList ([47,109,111,100,117,108,101,115,47]:List UInt8)=true:=hp;have e2:Lib.trimPrefix r.data.toList ([47,109,111,100,117,108,101,115,47]:List UInt8)=r.data.toList.drop 9:=by unfold Lib.trimPrefix;rw [if_pos e1];rfl
  simp only [e1,e2] at h;exact h
 have HC:Hid (∀ w1,Calls Tryz.prog 154 #[.string ⟨(r.data.toList.drop 9).toArray⟩,.string ⟨#[47]⟩] w1 fun e w'=>∃ x y,e= .returned (.tuple #[.string (Sc.ba (bD (r.data.toList.drop 9))),.string x,.bool y])∧Below w1.heap.size w1 w'):=fun w1=>by
  have h:=PL ⟨(r.data.toList.drop 9).toArray⟩ (by show (r.data.toList.drop 9).toArray.size≤_;simp only [List.size_toArray,List.length_drop,aI];omega) w1
  simpa using h
 have HN:Hid (∀ w1,Calls Tryz.prog 53 #[.string (Sc.ba (bD (r.data.toList.drop 9)))] w1 fun e w'=>e= .returned (.bool (Sc.aK (bD (r.data.toList.drop 9))))∧w'=w1):=fun w1=>by
  have h:=Sc.eK (Sc.ba (bD (r.data.toList.drop 9))) w1;rw [Sc.cQ] at h;exact h
 generalize Sc.aK (bD (r.data.toList.drop 9))=b at*;generalize Sc.ba (bD (r.data.toList.drop 9))=n at*;generalize (⟨(r.data.toList.drop 9).toArray⟩:ByteArray)=q at*;clear hp
 go_enter Tryz.func108,Tryz.ntmps108
 go_wp2_with (first
  |(go_at_call 153;refine (HP.out _).mono ?_;rintro e w1 ⟨rfl,rfl⟩)
  |(go_at_call 154;refine (HC.out _).mono ?_;rintro e w2 ⟨x,y,rfl,ok⟩;have HB:=aB ok;clear ok)
  |(go_at_call 53;refine (HN.out _).mono ?_;rintro e w3 ⟨rfl,rfl⟩))
 all_goals go_ret2
 all_goals exact ⟨by cases b<;>rfl,HB.out⟩
set_option maxHeartbeats 1600000 in
theorem XF (r:ByteArray) (hsz:r.size≤9223372036854775807) (hp:iM.isPrefixOf r.data.toList=false) (w:World):Calls Tryz.prog 108 #[.string r] w fun e w'=>∃ x,e= .returned (.tuple #[.string x,.bool false])∧Below w.heap.size w w':=by
 have HP:Hid (∀ w1,Calls Tryz.prog 153 #[.string r,.string ⟨#[47,109,111,100,117,108,101,115,47]⟩] w1 fun e w'=>e= .returned (.tuple #[.string r,.bool false])∧w'=w1):=fun w1=>by
  have h:=Tryz.strings_CutPrefix r ⟨#[47,109,111,100,117,108,101,115,47]⟩ w1;have e1:Lib.hasPrefix r.data.toList ([47,109,111,100,117,108,101,115,47]:List UInt8)=false:=hp;have e2:Lib.trimPrefix r.data.toList ([47,109,111,100,117,108,101,115,47]:List UInt8)=r.data.toList:=by unfold Lib.trimPrefix;rw [if_neg (by rw [e1];simp)]
  simp only [e1,e2] at h;exact h
 have HC:Hid (∀ w1,Calls Tryz.prog 154 #[.string r,.string ⟨#[47]⟩] w1 fun e w'=>∃ x y,e= .returned (.tuple #[.string (Sc.ba (bD r.data.toList)),.string x,.bool y])∧Below w1.heap.size w1 w'):=fun w1=>PL r hsz w1
 generalize Sc.ba (bD r.data.toList)=n at*;clear hp
 go_enter Tryz.func108,Tryz.ntmps108
 go_wp2_with (first
  |(go_at_call 153;refine (HP.out _).mono ?_;rintro e w1 ⟨rfl,rfl⟩)
  |(go_at_call 154;refine (HC.out _).mono ?_;rintro e w2 ⟨x,y,rfl,ok⟩;have HB:=aB ok;clear ok))
 all_goals go_ret2
 all_goals exact ⟨_,rfl,HB.out⟩
def Be (t:List UInt8):Prop:=∀ L r,aT L=true→aZ L++r=t→L.length≤14073748835124
theorem LX {L:List ByteArray} {n:List UInt8} (h:aT L=true) (hn:Sc.aK n=true):aT (L++[Sc.ba n])=true:=by
 unfold aT at*;rw [List.all_append,h];simp only [List.all_cons,List.all_nil,Bool.and_true,Bool.true_and];rw [Sc.cQ];exact hn
theorem TE (A B:List ByteArray):aZ (A++B)=aZ A++aZ B:=by simp [aZ]
theorem El {r:List UInt8} (h:iM.isPrefixOf r=true):r=iM++r.drop 9:=by
 rw [List.isPrefixOf_iff_prefix,List.prefix_iff_eq_append] at h;exact h.symm
theorem vX {r:List UInt8} (h:iM.isPrefixOf r=true):r=iM++bD (r.drop 9)++(r.drop 9).drop (bD (r.drop 9)).length:=by
 have h1:(r.drop 9).take (bD (r.drop 9)).length++(r.drop 9).drop (bD (r.drop 9)).length=r.drop 9:=List.take_append_drop _ _;rw [vT] at h1;rw [List.append_assoc,h1];exact El h
theorem GF {o:Option (List ByteArray)} (A:List ByteArray) (n:ByteArray):(o.map fun L=>n::L).map (fun L=>A++L)=o.map fun L=>(A++[n])++L:=by
 cases o<;>simp
theorem XG {r:ByteArray} (h:iM.isPrefixOf r.data.toList=true):9+(bD (r.data.toList.drop 9)).length≤r.size:=by
 have h1:=congrArg List.length (vX h);rw [List.length_append,List.length_append,GD,aI] at h1;omega
set_option maxHeartbeats 3200000 in
theorem GG (t:ByteArray) (ht:t.size≤9223372036854775807) (hf:Be t.data.toList) (h0:t.data.toList≠[47]) (w:World):
 Calls Tryz.prog 58 #[.string t] w fun e w'=>∃ v,e= .returned (.tuple #[v,.bool (cI t.data.toList).isSome])∧OwnPa w' w.heap.size v ((cI t.data.toList).getD [])∧Below w.heap.size w w':=by
 have HV:Hid (cI t.data.toList=if t.data.toList=[] then none else fG t.data.toList):=by unfold Hid cI;rw [if_neg h0]
 have HF:=aB hf;have HFY:Hid (∀ (r:ByteArray),r.size≤t.size→iM.isPrefixOf r.data.toList=true→∀ w1,Calls Tryz.prog 108 #[.string r] w1 fun e w'=>e= .returned (.tuple #[.string (Sc.ba (bD (r.data.toList.drop 9))),.bool (Sc.aK (bD (r.data.toList.drop 9)))])∧Below w1.heap.size w1 w'):=fun r hz hp w1=>TD r (by omega) hp w1
 have HFN:Hid (∀ (r:ByteArray),r.size≤t.size→iM.isPrefixOf r.data.toList=false→∀ w1,Calls Tryz.prog 108 #[.string r] w1 fun e w'=>∃ x,e= .returned (.tuple #[.string x,.bool false])∧Below w1.heap.size w1 w'):=fun r hz hp w1=>XF r (by omega) hp w1
 have HCL:Hid (∀ (s:ByteArray),s.size≤281474976710656→∀ w1,Calls Tryz.prog 109 #[.string s] w1 fun e w'=>e= .returned (.string s)∧Below w1.heap.size w1 w'):=fun s hs w1=>Sc.zX s hs w1
 have HON:Hid (OwnPa w w.heap.size (.slice none 0 0) []):=⟨rfl,Or.inl ⟨rfl,rfl⟩⟩;obtain ⟨i0,hi,hz0,hz1,hz2⟩:=Sc.bK Sc.mX;have hq0:(t.toList==[47])=false:=by rw [beq_eq_false_iff_ne,ByteArray.toList_eq];exact h0
 clear hf h0
 go_enter Tryz.func58,Tryz.ntmps58
 go_wp2_with fail
 go_loopw [4,5] (fun vp vr wr=>∃ (L:List ByteArray) (r:ByteArray),vr= .string r∧aT L=true∧aZ L++r.data.toList=t.data.toList∧fG t.data.toList=(fG r.data.toList).map (fun M=>L++M)∧OwnPa wr w.heap.size vp L∧Below w.heap.size w wr) (fun _ vr _=>match vr with| .string r=>r.size|_=>0)
 case atStart=>exact ⟨[],t,rfl,rfl,rfl,by simp,HON.out,Below.refl _ _⟩
 case round=>
  obtain ⟨L,r,rfl,hns,htx,hpt,hown,hb⟩:=hrel;have HN:=aB hns;have HT:=aB htx;have HP:=aB hpt;have HO:=aB hown;have HB:=aB hb;have HLN:=aB (HF.out L _ hns htx);obtain ⟨pa,pc,rfl,hpc⟩:=hown.form;clear hns htx hpt hown hb
  have hrt:r.size≤t.size:=by
   have e:=congrArg List.length HT.out;rw [List.length_append,aI,aI] at e;omega
  by_cases hr:r.data.toList=[]
  · have hre:(r.toList==[])=true:=by rw [ByteArray.toList_eq,hr];rfl
    have HPE:Hid (fG t.data.toList=some L):=by unfold Hid;rw [HP.out,hr,rT];simp
    have HLL:Hid (aZ L=t.data.toList):=by have e:=HT.out;rw [hr,List.append_nil] at e;exact e
    cases L with
    |nil=>
     have HR:Hid (cI t.data.toList=none):=by unfold Hid;rw [HV.out,if_pos (by rw [←HLL.out];rfl)]
     rw [List.length_nil];have hrs:r.toList=[]:=by rw [ByteArray.toList_eq,hr]
     clear hre
     go_wp2
     go_ret2;exact ⟨_,by rw [HR.out];rfl,by rw [HR.out];exact HO.out,HB.out⟩
    |cons n L=>
     have HR:Hid (cI t.data.toList=some (n::L)):=by unfold Hid;rw [HV.out,if_neg (by rw [←HLL.out];simp [aZ,fU]),HPE.out]
     have hp:(0:Int)<(((n::L).length:Nat):Int):=by rw [List.length_cons];omega
     have hrs:r.toList=[]:=by rw [ByteArray.toList_eq,hr]
     clear hre
     go_wp2
     go_ret2;exact ⟨_,by rw [HR.out];rfl,by rw [HR.out];exact HO.out,HB.out⟩
  · have hre:(r.toList==[])=false:=by rw [beq_eq_false_iff_ne,ByteArray.toList_eq];exact hr
    have hrn:r.toList≠[]:=by rw [ByteArray.toList_eq];exact hr
    have hre2:r.toList.isEmpty=false:=by rw [ByteArray.toList_eq];cases e:r.data.toList with|nil=>exact absurd e hr|cons _ _=>rfl
    have HNE:Hid (t.data.toList≠[]):=fun e=>by
     have q:=HT.out;rw [e] at q;exact hr (List.append_eq_nil_iff.1 q).2
    cases hp:iM.isPrefixOf r.data.toList
    · have HR:Hid (cI t.data.toList=none):=by unfold Hid;rw [HV.out,if_neg HNE.out,HP.out,vU hr (by rw [hp];simp)];rfl
      have HC:=aB (HFN.out r hrt hp);clear hp hr
      go_wp2_with (go_at_call 108;refine (HC.out _).mono ?_;rintro e w1 ⟨x,rfl,ok⟩;have HB1:=aB (aA HB.out ok);clear ok)
      go_ret2;exact ⟨_,by rw [HR.out];rfl,by rw [HR.out];exact ⟨rfl,Or.inl ⟨rfl,rfl⟩⟩,HB1.out⟩
    · have HC:=aB (HFY.out r hrt hp)
      cases hn:Sc.aK (bD (r.data.toList.drop 9))
      · have HR:Hid (cI t.data.toList=none):=by unfold Hid;rw [HV.out,if_neg HNE.out,HP.out,vU hr (by rw [hn];simp)];rfl
        rw [hn] at HC;generalize Sc.ba (bD (r.data.toList.drop 9))=nm at*;clear hp hr hn
        go_wp2_with (go_at_call 108;refine (HC.out _).mono ?_;rintro e w1 ⟨rfl,ok⟩;have HB1:=aB (aA HB.out ok);clear ok)
        go_ret2;exact ⟨_,by rw [HR.out];rfl,by rw [HR.out];exact ⟨rfl,Or.inl ⟨rfl,rfl⟩⟩,HB1.out⟩
      · rw [hn] at HC
        have hsz:=XG hp;have HNN:Hid (aT (L++[Sc.ba (bD (r.data.toList.drop 9))])=true):=LX HN.out hn
        have HRL:Hid ((r.extract (9+(bD (r.data.toList.drop 9)).length) r.size).data.toList=(r.data.toList.drop 9).drop (bD (r.data.toList.drop 9)).length):=by
         unfold Hid;rw [Sc.gP,Sc.cQ,←aI,List.take_length,List.drop_drop]
        have HTN:Hid (aZ (L++[Sc.ba (bD (r.data.toList.drop 9))])++(r.extract (9+(bD (r.data.toList.drop 9)).length) r.size).data.toList=t.data.toList):=by
         unfold Hid;rw [oJ,HRL.out,Sc.cQ,List.append_assoc,List.append_assoc,←HT.out]
         congr 1
         rw [←List.append_assoc];exact (vX hp).symm
        have HPN:Hid (fG t.data.toList=(fG (r.extract (9+(bD (r.data.toList.drop 9)).length) r.size).data.toList).map (fun M=>(L++[Sc.ba (bD (r.data.toList.drop 9))])++M)):=by
         unfold Hid;rw [HP.out,HRL.out,vV hr hp hn,GF]
        have hns:(Sc.ba (bD (r.data.toList.drop 9))).size=(bD (r.data.toList.drop 9)).length:=by show (bD (r.data.toList.drop 9)).toArray.size=_;simp
        have hnb:(Sc.ba (bD (r.data.toList.drop 9))).size≤16:=rQ (by rw [Sc.cQ];exact hn);have hnp:0<(bD (r.data.toList.drop 9)).length:=zZ hn;have HLM:=aB (HF.out _ _ HNN.out HTN.out);generalize (bD (r.data.toList.drop 9)).length=m at*;generalize Sc.ba (bD (r.data.toList.drop 9))=nm at*;have hll:L.length+1≤14073748835124:=by have e:=HLM.out;rw [List.length_append] at e;exact e
        have HCN:=aB (HCL.out nm (by omega));subst m;clear hp hr hn
        go_wp2_with (first
         |(go_at_call 108;refine (HC.out _).mono ?_;rintro e w1 ⟨rfl,ok⟩;have HO1:=aB (HO.out.below ok);have HB1:=aB (aA HB.out ok);clear ok)
         |(go_at_call 109;refine (HCN.out _).mono ?_;rintro e w2 ⟨rfl,ok⟩;have HO2:=aB (HO1.out.below ok);have HB2:=aB (aA HB1.out ok);clear ok)
         |(have _h:=HO2;at_builtin;refine wpList_append_own_wide _ rfl _ _ 50 rfl w.heap.size 9 i0 _ 1 16 Tryz.underlying50 hi hz0 hz1 hz2 rfl (by decide) _ _ _ rfl (HO2.out.alloc _) ⟨w2.heap.size,0,none⟩ 1 1 [.string nm] rfl rfl (cell_one_new _ _ _) (by simp [Value.oneCell']) (by unfold maxLen;omega) (by omega) (by have:=HB2.out.size;simp;omega) ?_;intro v3 w3 ho3 hg3 _;have HO3:Hid (OwnPa w3 w.heap.size v3 (L++[nm])):=(by have e:=ho3;unfold Hid OwnPa pcs;rw [List.map_append,List.length_append];exact e);have HB3:Hid (Below w.heap.size w w3):=(HB2.out.alloc (by have:=HB2.out.size;omega) _).grown hg3 (by have:=HB2.out.size;simp;omega) (fun k hk=>(World.ownsRow.lt HO2.out k hk).1);clear ho3 hg3))
        exact ⟨⟨L++[nm],_,rfl,HNN.out,HTN.out,HPN.out,HO3.out,HB3.out⟩,by simp;omega⟩
theorem LY (t:ByteArray) (ht:t.size≤9223372036854775807) (hf:Be t.data.toList) (w:World):
 Calls Tryz.prog 58 #[.string t] w fun e w'=>∃ v,e= .returned (.tuple #[v,.bool (cI t.data.toList).isSome])∧OwnPa w' w.heap.size v ((cI t.data.toList).getD [])∧Below w.heap.size w w':=by
 by_cases h0:t.data.toList=[47]
 · obtain rfl:t=⟨#[47]⟩:=bC (by rw [ByteArray.toList_eq,ByteArray.toList_eq,h0])
   have HR:Hid (cI (⟨#[47]⟩:ByteArray).data.toList=some []):=rfl;rw [HR.out];clear hf ht h0
   go_enter Tryz.func58,Tryz.ntmps58
   go_wp2
   go_ret2;exact ⟨_,rfl,⟨rfl,Or.inl ⟨rfl,rfl⟩⟩,Below.refl _ _⟩
 · exact GG t ht hf h0 w
end Go.Proofs.YtmnhnofnlcbliaaGreatDoor
