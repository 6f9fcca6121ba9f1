/- Wa3, Wa4: their declarations that are needed, laid in one text, remarks and blanks left out. -/
import Derived.Test.YtpfemjlhklnfoaaGreatDoorMh09
namespace Go.Proofs.YtpfemjlhklnfoaaGreatDoor
open Go.RowKit Go.Maps Go.WideMaps
set_option maxRecDepth 100000
def fS (O:List Dp) (E:List Pn) (d:Dp):Option Pn:=match E.find? (isN d.nm) with
 |some q=>if inL (bV O d) q.a q.b q.c=true then some ⟨d.nm,q.a,q.b,q.c⟩ else none
 |none=>none
def eD (O:List Dp) (E:List Pn):List Dp→Option (List Pn)
 |[]=>some []
 |d::ds=>match fS O E d with
  |none=>none
  |some p=>(eD O E ds).map (p:: ·)
def fA (L:List CV) (O:List Dp) (E:List Pn) (s:ByteArray) (a b c:Int):Option (List Pn):=match bJ L s a b c with
 |none=>none
 |some x=>eD O E x.pg.p
theorem fT {O:List Dp} {E:List Pn} {d:Dp} {ds:List Dp} (h:fS O E d=none):eD O E (d::ds)=none:=by
 unfold eD;rw [h]
theorem fU {O:List Dp} {E:List Pn} {d:Dp} {ds:List Dp} {p:Pn} (h:fS O E d=some p):eD O E (d::ds)=(eD O E ds).map (p:: ·):=by
 show (match fS O E d with|none=>none|some p=>(eD O E ds).map (p:: ·))=_;rw [h]
theorem lY {P:Pg} (h:aI P=true):eI P.p:=by
 unfold aI eV at h;simp only [Bool.and_eq_true] at h;exact bH h.1.1.2.2.1
def bD (p:Pn):List Value:=[.string p.nm,.int .i64 p.a,.int .i64 p.b,.int .i64 p.c]
def OwnPn (w:World) (B:Nat) (v:Value) (ps:List Pn):Prop:=w.ownsRow B 80 4 v ps.length (ps.flatMap bD)
theorem gV:(Tryz.prog.info? 80).map (fun i=>(i.zero,i.size,i.bytes))=some (some (.agg #[.string ⟨#[]⟩,.int .i64 0,.int .i64 0,.int .i64 0]),4,40):=by kernel_rfl
theorem OwnPn.nil (w:World) (B:Nat):OwnPn w B (.slice none 0 0) []:=⟨rfl,Or.inl ⟨rfl,rfl⟩⟩
def wR (w:World) (r:Option (List Pn)) (e:Ending) (w':World):Prop:=(r=none→e= .returned (.tuple #[.slice none 0 0,.bool false]))∧(∀ ps,r=some ps→∃ v,e= .returned (.tuple #[v,.bool true])∧OwnPn w' w.heap.size v ps)∧Below w.heap.size w w'
theorem JT {w:World} {B C Q:Nat} {L:List CV} (h:CatAt w B C Q L) {x:CV} {s:ByteArray} {a b c:Int} (hx:bJ L s a b c=some x):Calls Tryz.prog 15 #[.pointer (some ⟨C,0,none⟩),.string s,.agg #[.int .i64 a,.int .i64 b,.int .i64 c]] w fun e w'=>∃ p1 q1 r1 p2 r2 p3 q3 r3,e= .returned (.tuple #[.agg #[.string x.pg.nm,.int .i64 x.pg.a,.int .i64 x.pg.b,.int .i64 x.pg.c,.slice p1 q1 r1,.slice p2 x.pg.p.length r2,.slice p3 q3 r3],.bool true])∧DepsAt w' (.slice p2 x.pg.p.length r2) x.pg.p∧Below w.heap.size w w':=by
 obtain ⟨_,h1,h2,h3,h4,_⟩:=h.find hx;obtain ⟨P,u1,u2,u3⟩:=x
 simp only at h1 h2 h3 h4
 subst h1 h2 h3 h4;refine (uA h hx).mono ?_;rintro e w' ⟨v1,v2,v3,rfl,ho,hb⟩;obtain ⟨p1,q1,r1,rfl⟩:=kB ho;obtain ⟨p3,q3,r3,rfl⟩:=kC ho;have hd:=ho.at.2.1;obtain ⟨p2,r2,rfl,_⟩:=hd.el;exact ⟨p1,q1,r1,p2,r2,p3,q3,r3,rfl,hd,hb⟩
set_option maxHeartbeats 12800000 in
theorem JU {w:World} {B C Q:Nat} {L:List CV} (hc:CatAt w B C Q L) {O:List Dp} {v4:Value} (ho:DepsAt w v4 O) {M n:Nat} (hm:SmAt w M n (.int .i64 0) (aJ O)) {E:List Pn} {T m:Nat} (ht:SmAt w T m zV (bC E)) (s:ByteArray) (a b c:Int) (hk:bQ s a b c):Calls Tryz.prog 221 #[.pointer (some ⟨C,0,none⟩),.agg #[v4,.map (some M)],.map (some T),.agg #[.string s,.int .i64 a,.int .i64 b,.int .i64 c]] w (wR w (fA L O E s a b c)):=by
 obtain ⟨ad,cap,rfl,hcap,_⟩:=ho.el;have HKD:Hid (∀ x y,(((Below w.heap.size w x∧SmAt x M n (.int .i64 0) (aJ O))∧(SmAt x T m zV (bC E)∧DepsAt x (.slice ad O.length cap) O))∧Sc.aF x w.heap.size 0 (.slice ad O.length cap)∧Sc.aF x w.heap.size 1 (.map (some M)))→Below x.heap.size x y→((Below w.heap.size w y∧SmAt y M n (.int .i64 0) (aJ O))∧(SmAt y T m zV (bC E)∧DepsAt y (.slice ad O.length cap) O))∧Sc.aF y w.heap.size 0 (.slice ad O.length cap)∧Sc.aF y w.heap.size 1 (.map (some M))):=fun x y hx hxy=>⟨⟨⟨aB hx.1.1.1 hxy,hx.1.1.2.below hxy⟩,hx.1.2.1.below hxy,hx.1.2.2.below hxy⟩,aP _ _ _ _ _ hx.2.1 hxy,aP _ _ _ _ _ hx.2.2 hxy⟩
 have HK0:Hid (((Below w.heap.size w ((w.alloc (.cells #[.slice ad O.length cap,.map (some M)] 249)).alloc (.cells #[.string s,.int .i64 a,.int .i64 b,.int .i64 c] 80))∧SmAt ((w.alloc (.cells #[.slice ad O.length cap,.map (some M)] 249)).alloc (.cells #[.string s,.int .i64 a,.int .i64 b,.int .i64 c] 80)) M n (.int .i64 0) (aJ O))∧(SmAt ((w.alloc (.cells #[.slice ad O.length cap,.map (some M)] 249)).alloc (.cells #[.string s,.int .i64 a,.int .i64 b,.int .i64 c] 80)) T m zV (bC E)∧DepsAt ((w.alloc (.cells #[.slice ad O.length cap,.map (some M)] 249)).alloc (.cells #[.string s,.int .i64 a,.int .i64 b,.int .i64 c] 80)) (.slice ad O.length cap) O))∧Sc.aF ((w.alloc (.cells #[.slice ad O.length cap,.map (some M)] 249)).alloc (.cells #[.string s,.int .i64 a,.int .i64 b,.int .i64 c] 80)) w.heap.size 0 (.slice ad O.length cap)∧Sc.aF ((w.alloc (.cells #[.slice ad O.length cap,.map (some M)] 249)).alloc (.cells #[.string s,.int .i64 a,.int .i64 b,.int .i64 c] 80)) w.heap.size 1 (.map (some M))):=⟨⟨⟨aR _ _ _,hm.below (aR _ _ _)⟩,ht.below (aR _ _ _),ho.below (aR _ _ _)⟩,⟨by simp,by simp;omega⟩,⟨by simp,by simp;omega⟩⟩
 have k0:((w.alloc (.cells #[.slice ad O.length cap,.map (some M)] 249)).alloc (.cells #[.string s,.int .i64 a,.int .i64 b,.int .i64 c] 80)).cell? ⟨w.heap.size+1,0,none⟩=some (.string s):=(aY (by simp) rfl).1;have k1:((w.alloc (.cells #[.slice ad O.length cap,.map (some M)] 249)).alloc (.cells #[.string s,.int .i64 a,.int .i64 b,.int .i64 c] 80)).cell? ⟨w.heap.size+1,1,none⟩=some (.int .i64 a):=(aY (by simp) rfl).1;have k2:((w.alloc (.cells #[.slice ad O.length cap,.map (some M)] 249)).alloc (.cells #[.string s,.int .i64 a,.int .i64 b,.int .i64 c] 80)).cell? ⟨w.heap.size+1,2,none⟩=some (.int .i64 b):=(aY (by simp) rfl).1;have k3:((w.alloc (.cells #[.slice ad O.length cap,.map (some M)] 249)).alloc (.cells #[.string s,.int .i64 a,.int .i64 b,.int .i64 c] 80)).cell? ⟨w.heap.size+1,3,none⟩=some (.int .i64 c):=(aY (by simp) rfl).1
 have HC:=aA (hc.below (aR w (.cells #[.slice ad O.length cap,.map (some M)] 249) (.cells #[.string s,.int .i64 a,.int .i64 b,.int .i64 c] 80)));have HSMP:Hid (∀ x,bJ L s a b c=some x→eI x.pg.p):=fun x hx=>lY (hc.find hx).2.2.2.2.2.2.1
 clear hc ho hm ht;cases hx:bJ L s a b c with
 |none=>
  have HBC:Hid (fA L O E s a b c=none):=by
   unfold Hid fA;rw [hx]
  have HG:=aA (tZ HC.out hk hx);unfold zPg at HG;clear hk hx;rw [HBC.out];have HFN:Hid (∀ w',Below w.heap.size w w'→wR w none (.returned (.tuple #[.slice none 0 0,.bool false])) w'):=fun w' hb=>⟨fun _=>rfl,fun ps h=>(by cases h),hb⟩
  generalize wR w none=HQ at*
  go_enter Tryz.func221,Tryz.ntmps221
  go_wp2_with (go_at_call 15;refine HG.out.mono ?_;rintro e w2 ⟨rfl,hb⟩;have HK2:=aA (HKD.out _ _ HK0.out hb);clear hb)
  exact HFN.out _ (aB HK2.out.1.1.1 (aD _ _))
 |some x=>
  have HBC:Hid (fA L O E s a b c=eD O E x.pg.p):=by
   unfold Hid fA;rw [hx]
  have HG:=aA (JT HC.out hx);have hsm:=HSMP.out x hx;rw [HBC.out];clear hk hx HSMP HBC HC;obtain ⟨P,u1,u2,u3⟩:=x
  simp only at HG hsm
  have hpl:P.p.length≤16:=hsm.1;have HN:Hid (∀ d ∈ P.p,d.nm.size≤16):=hsm.2;have HFN0:Hid (∀ w',eD O E P.p=none→Below w.heap.size w w'→wR w (eD O E P.p) (.returned (.tuple #[.slice none 0 0,.bool false])) w'):=fun w' h hb=>⟨fun _=>rfl,fun ps h2=>(by rw [h] at h2;cases h2),hb⟩
  have HFS0:Hid (∀ w' v ps,eD O E P.p=some ps→OwnPn w' w.heap.size v ps→Below w.heap.size w w'→wR w (eD O E P.p) (.returned (.tuple #[v,.bool true])) w'):=fun w' v ps h ho hb=>⟨fun h2=>(by rw [h] at h2;cases h2),fun qs h2=>(by rw [h] at h2;cases h2;exact ⟨v,rfl,ho⟩),hb⟩
  generalize hHQ:wR w (eD O E P.p)=HQ at*;clear hHQ
  go_enter Tryz.func221,Tryz.ntmps221
  go_wp2_with (go_at_call 15;refine HG.out.mono ?_;rintro e w2 ⟨p1,q1,r1,p2,r2,p3,q3,r3,rfl,hd2,hb⟩;have HK2:=aA (HKD.out _ _ HK0.out hb);have HD2:=aA hd2;clear hb hd2 k0 k1 k2 k3)
  have HKW:Hid (((Below w.heap.size w (w2.alloc (.cells #[.string P.nm,.int .i64 P.a,.int .i64 P.b,.int .i64 P.c,.slice p1 q1 r1,.slice p2 P.p.length r2,.slice p3 q3 r3] 34))∧SmAt (w2.alloc (.cells #[.string P.nm,.int .i64 P.a,.int .i64 P.b,.int .i64 P.c,.slice p1 q1 r1,.slice p2 P.p.length r2,.slice p3 q3 r3] 34)) M n (.int .i64 0) (aJ O))∧(SmAt (w2.alloc (.cells #[.string P.nm,.int .i64 P.a,.int .i64 P.b,.int .i64 P.c,.slice p1 q1 r1,.slice p2 P.p.length r2,.slice p3 q3 r3] 34)) T m zV (bC E)∧DepsAt (w2.alloc (.cells #[.string P.nm,.int .i64 P.a,.int .i64 P.b,.int .i64 P.c,.slice p1 q1 r1,.slice p2 P.p.length r2,.slice p3 q3 r3] 34)) (.slice ad O.length cap) O))∧Sc.aF (w2.alloc (.cells #[.string P.nm,.int .i64 P.a,.int .i64 P.b,.int .i64 P.c,.slice p1 q1 r1,.slice p2 P.p.length r2,.slice p3 q3 r3] 34)) w.heap.size 0 (.slice ad O.length cap)∧Sc.aF (w2.alloc (.cells #[.string P.nm,.int .i64 P.a,.int .i64 P.b,.int .i64 P.c,.slice p1 q1 r1,.slice p2 P.p.length r2,.slice p3 q3 r3] 34)) w.heap.size 1 (.map (some M))):=HKD.out _ _ HK2.out (aD _ _)
  have HDW:Hid (DepsAt (w2.alloc (.cells #[.string P.nm,.int .i64 P.a,.int .i64 P.b,.int .i64 P.c,.slice p1 q1 r1,.slice p2 P.p.length r2,.slice p3 q3 r3] 34)) (.slice p2 P.p.length r2) P.p):=HD2.out.below (aD _ _);generalize (w2.alloc (.cells #[.string P.nm,.int .i64 P.a,.int .i64 P.b,.int .i64 P.c,.slice p1 q1 r1,.slice p2 P.p.length r2,.slice p3 q3 r3] 34))=W at*
  have HEL:Hid (∀ k (_:k<P.p.length),∃ g o,p2=some ⟨g,o,none⟩∧∃ au nu cu,DpIn W g (o+k*2) P.p[k] (.slice au nu cu)):=by
   obtain ⟨ad',cap',e,_,hel⟩:=HDW.out.el;injection e with e1 _ _
   subst e1;exact hel
  have hwW:w.heap.size≤W.heap.size:=HKW.out.1.1.1.size;have HKF:Hid (∀ y,Below W.heap.size W y→((Below w.heap.size w y∧SmAt y M n (.int .i64 0) (aJ O))∧(SmAt y T m zV (bC E)∧DepsAt y (.slice ad O.length cap) O))∧Sc.aF y w.heap.size 0 (.slice ad O.length cap)∧Sc.aF y w.heap.size 1 (.map (some M))):=fun y hb=>HKD.out _ _ HKW.out hb
  have HFN:Hid (∀ w' (hq:True),eD O E P.p=none→Below W.heap.size W w'→HQ (.returned (.tuple #[.slice none 0 0,.bool false])) w'):=fun w' _ h hb=>HFN0.out w' h (aB HKW.out.1.1.1 hb)
  have HFS:Hid (∀ w' v ps,eD O E P.p=some ps→OwnPn w' W.heap.size v ps→Below W.heap.size W w'→HQ (.returned (.tuple #[v,.bool true])) w'):=fun w' v ps h ho hb=>HFS0.out w' v ps h (bZ ho hwW) (aB HKW.out.1.1.1 hb)
  clear HFN0 HFS0 HK0 HK2 HD2 HDW HG
  go_loopw [12,31] (fun vo vi wr=>∃ (k:Nat) (done:List Pn),k≤P.p.length∧vi= .int .i64 k∧done.length=k∧((((Below w.heap.size w wr∧SmAt wr M n (.int .i64 0) (aJ O))∧(SmAt wr T m zV (bC E)∧DepsAt wr (.slice ad O.length cap) O))∧Sc.aF wr w.heap.size 0 (.slice ad O.length cap)∧Sc.aF wr w.heap.size 1 (.map (some M)))∧Below W.heap.size W wr)∧OwnPn wr W.heap.size vo done∧eD O E P.p=(eD O E (P.p.drop k)).map (done++ ·)) (fun _ vi _=>P.p.length - (intOf vi).toNat)
  case atStart=>exact ⟨0,[],Nat.zero_le _,rfl,rfl,⟨HKW.out,Below.refl _ _⟩,OwnPn.nil _ _,by simp⟩
  case round=>
   obtain ⟨k,done,hk,rfl,hdl,hkw,how,heq⟩:=hrel;have HK:=aA hkw;have HOW:=aA how;have HEQ:=aA heq;obtain ⟨av,cv,rfl⟩:=bN how;rw [hdl];have HDL:=aA hdl;clear hkw how heq hdl;obtain ⟨_,⟨o0,ho0⟩,o1,ho1⟩:=HK.out.1
   by_cases hlt:k<P.p.length
   · have hki:(k:Int)<(P.p.length:Int):=by omega
     obtain ⟨g,o,rfl,au,nu,cu,e0,e1,hsp,hg⟩:=HEL.out k hlt;have hnm:=HN.out _ (List.getElem_mem hlt);have HDR:Hid (P.p.drop k=P.p[k]::P.p.drop (k+1)):=List.drop_eq_getElem_cons hlt;rw [HDR.out] at HEQ;have p0:=(HK.out.2.cell (p:=⟨g,o+k*2,none⟩) hg).trans e0;have p1':=(HK.out.2.cell (p:=⟨g,o+k*2+1,none⟩) hg).trans e1;have HSP:=aA hsp;generalize P.p[k]=d at*;clear HDR e0 e1 hsp
     have HK1:Hid (((Below w.heap.size w (wr.alloc (.cells #[.string d.nm,.slice au nu cu] 89))∧SmAt (wr.alloc (.cells #[.string d.nm,.slice au nu cu] 89)) M n (.int .i64 0) (aJ O))∧(SmAt (wr.alloc (.cells #[.string d.nm,.slice au nu cu] 89)) T m zV (bC E)∧DepsAt (wr.alloc (.cells #[.string d.nm,.slice au nu cu] 89)) (.slice ad O.length cap) O))∧Sc.aF (wr.alloc (.cells #[.string d.nm,.slice au nu cu] 89)) w.heap.size 0 (.slice ad O.length cap)∧Sc.aF (wr.alloc (.cells #[.string d.nm,.slice au nu cu] 89)) w.heap.size 1 (.map (some M))):=HKD.out _ _ HK.out.1 (aD _ _);have hl:=HK1.out.1.2.1.look2 Tryz.underlying213 (FB _) (s:=d.nm) (by unfold maxLen;omega);cases hf:E.find? (isN d.nm) with
     |none=>
      have HBN:Hid (fS O E d=none):=by
       unfold Hid fS;rw [hf]
      have hfv:bC E d.nm=none:=by
       unfold bC;rw [hf];rfl
      rw [hfv] at hl;simp only [Option.isSome,Option.getD,zV] at hl
      have HNE:Hid (eD O E P.p=none):=by
       unfold Hid;rw [HEQ.out,fT HBN.out];rfl
      have HKv:Hid (KeepP fun w1=>Below W.heap.size W w1):=aG W;have HOv:Hid (Below W.heap.size W ((wr.alloc (.cells #[.string d.nm,.slice au nu cu] 89)).alloc (.cells #[.int .i64 0,.int .i64 0,.int .i64 0] 31))):=aB HK.out.2 (aR _ _ _);clear hf hfv HBN
      go_wp2_with fail
      generalize ((wr.alloc (.cells #[.string d.nm,.slice au nu cu] 89)).alloc (.cells #[.int .i64 0,.int .i64 0,.int .i64 0] 31))=wz at*;have HK:=HKv;have HO:=HOv;clear HKv HOv;refine bA HK (by kernel_rfl) (by kernel_rfl) (by first|exact HO.out|exact HK.out.drew HO.out) ?_;intro C HIN HOUT;clear HO
      repeat
       (with_reducible refine wpQuiet_step (fun K hK=> ?_)
        go_simp
        first
         |(refine hK _ ?_;clear hK K)
         |(apply Exists.intro;refine ⟨fun w1 hC=> ?_,hK _ ?_⟩;(focus ((first|(exact rfl)|(obtain hb1:=HOUT.out w1 hC;clear hC;go_simp;first|done|exact rfl));done));clear hK K))
      refine wpQuiet_nil ?_;intro wy hC;have HO:=aA (HOUT.out _ hC);clear hC HIN HOUT C;obtain hb1:=HO.out
      go_wp2_with fail
      exact HFN.out _ trivial HNE.out hb1
     |some q=>
      have hfv:bC E d.nm=some (rY q):=by
       unfold bC;rw [hf];rfl
      rw [hfv] at hl;simp only [Option.isSome,Option.getD,rY] at hl
      have HWV:Hid (((Below w.heap.size w ((wr.alloc (.cells #[.string d.nm,.slice au nu cu] 89)).alloc (.cells #[.int .i64 q.a,.int .i64 q.b,.int .i64 q.c] 31))∧SmAt ((wr.alloc (.cells #[.string d.nm,.slice au nu cu] 89)).alloc (.cells #[.int .i64 q.a,.int .i64 q.b,.int .i64 q.c] 31)) M n (.int .i64 0) (aJ O))∧(SmAt ((wr.alloc (.cells #[.string d.nm,.slice au nu cu] 89)).alloc (.cells #[.int .i64 q.a,.int .i64 q.b,.int .i64 q.c] 31)) T m zV (bC E)∧DepsAt ((wr.alloc (.cells #[.string d.nm,.slice au nu cu] 89)).alloc (.cells #[.int .i64 q.a,.int .i64 q.b,.int .i64 q.c] 31)) (.slice ad O.length cap) O))∧Sc.aF ((wr.alloc (.cells #[.string d.nm,.slice au nu cu] 89)).alloc (.cells #[.int .i64 q.a,.int .i64 q.b,.int .i64 q.c] 31)) w.heap.size 0 (.slice ad O.length cap)∧Sc.aF ((wr.alloc (.cells #[.string d.nm,.slice au nu cu] 89)).alloc (.cells #[.int .i64 q.a,.int .i64 q.b,.int .i64 q.c] 31)) w.heap.size 1 (.map (some M))):=HKD.out _ _ HK1.out (aD _ _)
      have HBV:Hid (Below W.heap.size W ((wr.alloc (.cells #[.string d.nm,.slice au nu cu] 89)).alloc (.cells #[.int .i64 q.a,.int .i64 q.b,.int .i64 q.c] 31))):=aB HK.out.2 (aR _ _ _)
      have HRG:Hid (∀ w1,(((Below w.heap.size w w1∧SmAt w1 M n (.int .i64 0) (aJ O))∧(SmAt w1 T m zV (bC E)∧DepsAt w1 (.slice ad O.length cap) O))∧Sc.aF w1 w.heap.size 0 (.slice ad O.length cap)∧Sc.aF w1 w.heap.size 1 (.map (some M)))→Below wr.heap.size wr w1→Calls Tryz.prog 239 #[.agg #[.slice ad O.length cap,.map (some M)],.agg #[.string d.nm,.slice au nu cu]] w1 fun e w'=>∃ a1 b1 c1,e= .returned (.slice a1 b1 c1)∧SpansAt w' (.slice a1 b1 c1) (bV O d)∧Below w1.heap.size w1 w'):=fun w1 hk hb=>by
       refine (pZ hk.1.2.2 hk.1.1.2 d ⟨HSP.out.1.1.below (HK.out.2.trans (hb.mono HK.out.2.size)),HSP.out.1.2⟩ HSP.out.2 (by omega)).mono ?_;rintro e w' ⟨v,rfl,hv,_,hbb⟩;obtain ⟨a1,b1,c1,rfl,_⟩:=hv.2;exact ⟨a1,b1,c1,rfl,hv.1,hbb⟩
      have HIN:Hid (∀ w1 v,SpansAt w1 v (bV O d)→Calls Tryz.prog 51 #[v,.agg #[.int .i64 q.a,.int .i64 q.b,.int .i64 q.c]] w1 fun e w'=>e= .returned (.bool (inL (bV O d) q.a q.b q.c))∧Below w1.heap.size w1 w'):=fun w1 v hv=>yN hv _ _ _
      have hzs:((wr.alloc (.cells #[.string d.nm,.slice au nu cu] 89)).alloc (.cells #[.int .i64 q.a,.int .i64 q.b,.int .i64 q.c] 31)).heap.size=wr.heap.size+1+1:=by simp
      have hz0:w.heap.size<((wr.alloc (.cells #[.string d.nm,.slice au nu cu] 89)).alloc (.cells #[.int .i64 q.a,.int .i64 q.b,.int .i64 q.c] 31)).heap.size:=by omega
      have hz1:=hz0;have hz2:wr.heap.size<((wr.alloc (.cells #[.string d.nm,.slice au nu cu] 89)).alloc (.cells #[.int .i64 q.a,.int .i64 q.b,.int .i64 q.c] 31)).heap.size:=by omega
      have hz3:=hz2;have hz4:wr.heap.size+1<((wr.alloc (.cells #[.string d.nm,.slice au nu cu] 89)).alloc (.cells #[.int .i64 q.a,.int .i64 q.b,.int .i64 q.c] 31)).heap.size:=by omega
      have hz5:=hz4;have hz6:=hz4;have y0:((wr.alloc (.cells #[.string d.nm,.slice au nu cu] 89)).alloc (.cells #[.int .i64 q.a,.int .i64 q.b,.int .i64 q.c] 31)).cell? ⟨w.heap.size,0,none⟩=some (.slice ad O.length cap):=HWV.out.2.1.1;have y1:((wr.alloc (.cells #[.string d.nm,.slice au nu cu] 89)).alloc (.cells #[.int .i64 q.a,.int .i64 q.b,.int .i64 q.c] 31)).cell? ⟨w.heap.size,1,none⟩=some (.map (some M)):=HWV.out.2.2.1;have y2:((wr.alloc (.cells #[.string d.nm,.slice au nu cu] 89)).alloc (.cells #[.int .i64 q.a,.int .i64 q.b,.int .i64 q.c] 31)).cell? ⟨wr.heap.size,0,none⟩=some (.string d.nm):=by simp
      have y3:((wr.alloc (.cells #[.string d.nm,.slice au nu cu] 89)).alloc (.cells #[.int .i64 q.a,.int .i64 q.b,.int .i64 q.c] 31)).cell? ⟨wr.heap.size,1,none⟩=some (.slice au nu cu):=by simp
      have y4:((wr.alloc (.cells #[.string d.nm,.slice au nu cu] 89)).alloc (.cells #[.int .i64 q.a,.int .i64 q.b,.int .i64 q.c] 31)).cell? ⟨wr.heap.size+1,0,none⟩=some (.int .i64 q.a):=(aY (by simp) rfl).1;have y5:((wr.alloc (.cells #[.string d.nm,.slice au nu cu] 89)).alloc (.cells #[.int .i64 q.a,.int .i64 q.b,.int .i64 q.c] 31)).cell? ⟨wr.heap.size+1,1,none⟩=some (.int .i64 q.b):=(aY (by simp) rfl).1;have y6:((wr.alloc (.cells #[.string d.nm,.slice au nu cu] 89)).alloc (.cells #[.int .i64 q.a,.int .i64 q.b,.int .i64 q.c] 31)).cell? ⟨wr.heap.size+1,2,none⟩=some (.int .i64 q.c):=(aY (by simp) rfl).1;have HWB:Hid (Below wr.heap.size wr ((wr.alloc (.cells #[.string d.nm,.slice au nu cu] 89)).alloc (.cells #[.int .i64 q.a,.int .i64 q.b,.int .i64 q.c] 31))):=aR _ _ _;have HZ4:=aA hzs;have hf':=hf;clear hf hfv hzs;cases hin:inL (bV O d) q.a q.b q.c
      · rw [hin] at HIN
        have HNE:Hid (eD O E P.p=none):=by
         unfold Hid;rw [HEQ.out,fT]
         · rfl
         · unfold fS
           rw [hf']
           simp only
           rw [hin,if_neg (by decide)]
        clear hin hf'
        go_wp2_with fail
        generalize ((wr.alloc (.cells #[.string d.nm,.slice au nu cu] 89)).alloc (.cells #[.int .i64 q.a,.int .i64 q.b,.int .i64 q.c] 31))=wz at*
        go_region_held3 (fun w'=>w'.cell? ⟨w.heap.size,0,none⟩=some (.slice ad O.length cap)∧w'.cell? ⟨w.heap.size,1,none⟩=some (.map (some M))∧w'.cell? ⟨wr.heap.size,0,none⟩=some (.string d.nm)∧w'.cell? ⟨wr.heap.size,1,none⟩=some (.slice au nu cu)∧w'.cell? ⟨wr.heap.size+1,0,none⟩=some (.int .i64 q.a)∧w'.cell? ⟨wr.heap.size+1,1,none⟩=some (.int .i64 q.b)∧w'.cell? ⟨wr.heap.size+1,2,none⟩=some (.int .i64 q.c)) (go_keep) (first
         |(go_at_call 51;refine (HIN.out _ _ HV5.out).mono ?_;rintro e w6 ⟨rfl,hb⟩;have HW6:Hid (Below wr.heap.size wr w6):=aB HW5.out hb;have HB6:Hid (Below W.heap.size W w6):=aB HB5.out hb;have HZ6:Hid (Below wz.heap.size wz w6):=aB HZ5.out hb;clear t0 t1 t2 t3 t4 t5 t6;have t0:=(HZ6.out.cell (p:=⟨w.heap.size,0,none⟩) hz0).trans y0;have t1:=(HZ6.out.cell (p:=⟨w.heap.size,1,none⟩) hz1).trans y1;have t2:=(HZ6.out.cell (p:=⟨wr.heap.size,0,none⟩) hz2).trans y2;have t3:=(HZ6.out.cell (p:=⟨wr.heap.size,1,none⟩) hz3).trans y3;have t4:=(HZ6.out.cell (p:=⟨wr.heap.size+1,0,none⟩) hz4).trans y4;have t5:=(HZ6.out.cell (p:=⟨wr.heap.size+1,1,none⟩) hz5).trans y5;have t6:=(HZ6.out.cell (p:=⟨wr.heap.size+1,2,none⟩) hz6).trans y6;clear hb)
         |(go_at_call 239;refine (HRG.out _ (HKD.out _ _ HWV.out (Below.refl _ _).drew) (HWB.out.drew)).mono ?_;rintro e w5 ⟨a1,b1,c1,rfl,hv5,hb⟩;have HV5:=aA hv5;have HW5:Hid (Below wr.heap.size wr w5):=aB HWB.out.drew hb;have HB5:Hid (Below W.heap.size W w5):=aB HBV.out.drew hb;have HZ5:Hid (Below wz.heap.size wz w5):=aB (Below.refl _ _).drew hb;have t0:=(HZ5.out.cell (p:=⟨w.heap.size,0,none⟩) hz0).trans y0;have t1:=(HZ5.out.cell (p:=⟨w.heap.size,1,none⟩) hz1).trans y1;have t2:=(HZ5.out.cell (p:=⟨wr.heap.size,0,none⟩) hz2).trans y2;have t3:=(HZ5.out.cell (p:=⟨wr.heap.size,1,none⟩) hz3).trans y3;have t4:=(HZ5.out.cell (p:=⟨wr.heap.size+1,0,none⟩) hz4).trans y4;have t5:=(HZ5.out.cell (p:=⟨wr.heap.size+1,1,none⟩) hz5).trans y5;have t6:=(HZ5.out.cell (p:=⟨wr.heap.size+1,2,none⟩) hz6).trans y6;clear hb hv5))
        go_wp2_with fail
        exact HFN.out _ trivial HNE.out HB6.out
      · rw [hin] at HIN
        have HBS:Hid (fS O E d=some ⟨d.nm,q.a,q.b,q.c⟩):=by
         unfold Hid fS;rw [hf']
         simp only
         rw [hin,if_pos rfl]
        have HEN:Hid (eD O E P.p=(eD O E (P.p.drop (k+1))).map ((done++[⟨d.nm,q.a,q.b,q.c⟩])++ ·)):=by
         unfold Hid;rw [HEQ.out,fU HBS.out,Option.map_map]
         congr 1
         funext x
         simp
        clear hin hf' HBS
        go_wp2_with fail
        generalize ((wr.alloc (.cells #[.string d.nm,.slice au nu cu] 89)).alloc (.cells #[.int .i64 q.a,.int .i64 q.b,.int .i64 q.c] 31))=wz at*
        go_region_held3 (fun w'=>w'.cell? ⟨w.heap.size,0,none⟩=some (.slice ad O.length cap)∧w'.cell? ⟨w.heap.size,1,none⟩=some (.map (some M))∧w'.cell? ⟨wr.heap.size,0,none⟩=some (.string d.nm)∧w'.cell? ⟨wr.heap.size,1,none⟩=some (.slice au nu cu)∧w'.cell? ⟨wr.heap.size+1,0,none⟩=some (.int .i64 q.a)∧w'.cell? ⟨wr.heap.size+1,1,none⟩=some (.int .i64 q.b)∧w'.cell? ⟨wr.heap.size+1,2,none⟩=some (.int .i64 q.c)) (go_keep) (first
         |(go_at_call 51;refine (HIN.out _ _ HV5.out).mono ?_;rintro e w6 ⟨rfl,hb⟩;have HW6:Hid (Below wr.heap.size wr w6):=aB HW5.out hb;have HB6:Hid (Below W.heap.size W w6):=aB HB5.out hb;have HZ6:Hid (Below wz.heap.size wz w6):=aB HZ5.out hb;clear t0 t1 t2 t3 t4 t5 t6;have t0:=(HZ6.out.cell (p:=⟨w.heap.size,0,none⟩) hz0).trans y0;have t1:=(HZ6.out.cell (p:=⟨w.heap.size,1,none⟩) hz1).trans y1;have t2:=(HZ6.out.cell (p:=⟨wr.heap.size,0,none⟩) hz2).trans y2;have t3:=(HZ6.out.cell (p:=⟨wr.heap.size,1,none⟩) hz3).trans y3;have t4:=(HZ6.out.cell (p:=⟨wr.heap.size+1,0,none⟩) hz4).trans y4;have t5:=(HZ6.out.cell (p:=⟨wr.heap.size+1,1,none⟩) hz5).trans y5;have t6:=(HZ6.out.cell (p:=⟨wr.heap.size+1,2,none⟩) hz6).trans y6;clear hb)
         |(go_at_call 239;refine (HRG.out _ (HKD.out _ _ HWV.out (Below.refl _ _).drew) (HWB.out.drew)).mono ?_;rintro e w5 ⟨a1,b1,c1,rfl,hv5,hb⟩;have HV5:=aA hv5;have HW5:Hid (Below wr.heap.size wr w5):=aB HWB.out.drew hb;have HB5:Hid (Below W.heap.size W w5):=aB HBV.out.drew hb;have HZ5:Hid (Below wz.heap.size wz w5):=aB (Below.refl _ _).drew hb;have t0:=(HZ5.out.cell (p:=⟨w.heap.size,0,none⟩) hz0).trans y0;have t1:=(HZ5.out.cell (p:=⟨w.heap.size,1,none⟩) hz1).trans y1;have t2:=(HZ5.out.cell (p:=⟨wr.heap.size,0,none⟩) hz2).trans y2;have t3:=(HZ5.out.cell (p:=⟨wr.heap.size,1,none⟩) hz3).trans y3;have t4:=(HZ5.out.cell (p:=⟨wr.heap.size+1,0,none⟩) hz4).trans y4;have t5:=(HZ5.out.cell (p:=⟨wr.heap.size+1,1,none⟩) hz5).trans y5;have t6:=(HZ5.out.cell (p:=⟨wr.heap.size+1,2,none⟩) hz6).trans y6;clear hb hv5))
        have HBX:Hid (Below W.heap.size W (w6.alloc (.cells #[.string d.nm,.int .i64 q.a,.int .i64 q.b,.int .i64 q.c] 80))):=aB HB6.out (aD _ _)
        have HOX:Hid ((w6.alloc (.cells #[.string d.nm,.int .i64 q.a,.int .i64 q.b,.int .i64 q.c] 80)).ownsRow W.heap.size 80 4 (.slice av k cv) k (done.flatMap bD)):=by
         have e:=HOW.out;unfold OwnPn at e;rw [HDL.out] at e;exact bG (bG e HW6.out) (aD _ _)
        have HNW:Hid (∀ j u,(bD ⟨d.nm,q.a,q.b,q.c⟩)[j]? =some u→(w6.alloc (.cells #[.string d.nm,.int .i64 q.a,.int .i64 q.b,.int .i64 q.c] 80)).cell? ((⟨w6.heap.size,0,none⟩:Addr).add j)=some u):=World.news_of_block (cs:= #[.string d.nm,.int .i64 q.a,.int .i64 q.b,.int .i64 q.c]) (t:=80) (fr:=(0,0)) (by show (w6.heap.push _)[_]? =_;rw [Array.getElem?_push,if_pos rfl])
        go_wp2_with (at_builtin;refine cH (B:=W.heap.size) (wx:=w6.alloc (.cells #[.string d.nm,.int .i64 q.a,.int .i64 q.b,.int .i64 q.c] 80)) (v:= .slice av k cv) (ad:=⟨w6.heap.size,0,none⟩) (n:=k) (m:=1) (news:=bD ⟨d.nm,q.a,q.b,q.c⟩) gV Tryz.underlying40 rfl (by decide) (by decide) rfl (.tmp 52) (.tmp 57) rfl rfl HOX.out HBX.out.size rfl rfl HNW.out (by simp [bD,Value.oneCell']) (by omega) ?_;intro v8 w8 ho8 hg8 hat8;obtain ⟨b8,d8,rfl⟩:=bN ho8;have HO8:=aA ho8;have HB8:Hid (Below W.heap.size W w8):=HBX.out.grown hg8 HBX.out.size (fun j hj=>(World.ownsRow.lt HOX.out j hj).1);clear ho8 hg8 hat8)
        refine ⟨⟨k+1,done++[⟨d.nm,q.a,q.b,q.c⟩],by omega,by go_num,by rw [List.length_append,HDL.out];rfl,⟨HKF.out _ HB8.out,HB8.out⟩,?_,HEN.out⟩,by simp [intOf];omega⟩;unfold OwnPn;rw [List.length_append,HDL.out,List.flatMap_append]
        simpa using HO8.out
   · obtain rfl:k=P.p.length:=by omega
     have hki:¬ ((P.p.length:Int)<(P.p.length:Int)):=by omega
     have HSM:Hid (eD O E P.p=some done):=by
      unfold Hid;rw [HEQ.out,List.drop_length];show (some []).map (done++ ·)=some done
      simp
     go_wp2_with fail
     exact HFS.out _ _ _ HSM.out (by have e:=HOW.out;rw [HDL.out] at e;exact e) HK.out.2
end Go.Proofs.YtpfemjlhklnfoaaGreatDoor
namespace Go.Proofs.YtpfemjlhklnfoaaGreatDoor
open Go.Shelf Go.RowKit Go.Lib Go.Sort Go.Maps Go.WideMaps
set_option maxRecDepth 100000
def cK (out:List Pn) (s:ByteArray):Bool:=out.any (isN s)
theorem kZ {out:List Pn} {s:ByteArray}:cK out s=true↔s ∈ out.map Pn.nm:=by
 unfold cK isN;rw [List.any_eq_true,List.mem_map];exact ⟨fun ⟨x,h1,h2⟩=>⟨x,h1,of_decide_eq_true h2⟩,fun ⟨x,h1,h2⟩=>⟨x,h1,decide_eq_true h2⟩⟩
theorem gF (a b:List Pn) (s:ByteArray):cK (a++b) s=(cK a s||cK b s):=List.any_append
def aK:List Pn→List Pn→List Pn
 |_,[]=>[]
 |out,p::ps=>if cK out p.nm=true then aK out ps else p::aK (out++[p]) ps
theorem gW:∀ (ps out:List Pn) (p:Pn),aK out (ps++[p])=aK out ps++(if cK (out++aK out ps) p.nm=true then [] else [p])
 |[],out,p=>by
  show (if cK out p.nm=true then aK out [] else p::aK (out++[p]) [])=_;simp only [aK,List.append_nil,List.nil_append]
 |q::ps,out,p=>by
  show (if cK out q.nm=true then aK out (ps++[p]) else q::aK (out++[q]) (ps++[p]))=(if cK out q.nm=true then aK out ps else q::aK (out++[q]) ps)++(if cK (out++(if cK out q.nm=true then aK out ps else q::aK (out++[q]) ps)) p.nm=true then [] else [p])
  by_cases h:cK out q.nm=true
  · simp only [if_pos h]
    exact gW ps out p
  · simp only [if_neg h]
    rw [gW ps (out++[q]) p,List.cons_append];simp only [List.append_assoc,List.singleton_append]
theorem fB:∀ {ps out:List Pn} {p:Pn},p ∈ aK out ps→p ∈ ps
 |[],_,_,h=>by cases h
 |q::ps,out,p,h=>by
  have h':p ∈ (if cK out q.nm=true then aK out ps else q::aK (out++[q]) ps):=h
  split at h'
  · exact List.mem_cons_of_mem _ (fB h')
  · rcases List.mem_cons.1 h' with rfl|h'
    · exact List.mem_cons_self
    · exact List.mem_cons_of_mem _ (fB h')
theorem dQ:∀ {ps out:List Pn},(out.map Pn.nm).Nodup→((out++aK out ps).map Pn.nm).Nodup
 |[],out,h=>by
  show ((out++[]).map Pn.nm).Nodup;rw [List.append_nil];exact h
 |q::ps,out,h=>by
  show ((out++(if cK out q.nm=true then aK out ps else q::aK (out++[q]) ps)).map Pn.nm).Nodup
  split
  · exact dQ h
  · rename_i hn
    have e:out++q::aK (out++[q]) ps=(out++[q])++aK (out++[q]) ps:=by simp
    rw [e];refine dQ ?_;rw [List.map_append];exact nO h (fun q'=>hn (kZ.2 q'))
def iS (L:List CV):List ByteArray:=L.flatMap fun x=>x.pg.p.map Dp.nm
def GoodC (L:List CV) (out:List Pn):Prop:=(out.map Pn.nm).Nodup∧∀ p ∈ out,p.nm ∈ iS L∧bQ p.nm p.a p.b p.c
theorem GoodC.nil (L:List CV):GoodC L []:=⟨List.nodup_nil,fun p hp=>by cases hp⟩
theorem GoodC.fresh {L:List CV} {out ps:List Pn} (h:GoodC L out) (hp:∀ p ∈ ps,p.nm ∈ iS L∧bQ p.nm p.a p.b p.c):GoodC L (out++aK out ps):=by
 refine ⟨dQ h.1,fun p hq=> ?_⟩
 rcases List.mem_append.1 hq with q|q
 · exact h.2 p q
 · exact hp p (fB q)
theorem lA:∀ {l m:List ByteArray},l.Nodup→(∀ x ∈ l,x ∈ m)→l.length≤m.length
 |[],_,_,_=>Nat.zero_le _
 |x::l,m,hn,hs=>by
  obtain ⟨m1,m2,rfl⟩:=List.append_of_mem (hs x List.mem_cons_self);rw [List.nodup_cons] at hn
  have:=lA (m:=m1++m2) hn.2 (fun y hy=>by
   have h:=hs y (List.mem_cons_of_mem _ hy)
   rcases List.mem_append.1 h with q|q
   · exact List.mem_append_left _ q
   · rcases List.mem_cons.1 q with rfl|q
     · exact absurd hy hn.1
     · exact List.mem_append_right _ q)
  rw [List.length_append] at this;rw [List.length_append,List.length_cons,List.length_cons];omega
theorem BP {L:List CV} (hl:L.length≤128) (hs:∀ x ∈ L,x.pg.p.length≤16):(iS L).length≤2048:=by
 have:∀ M:List CV,(∀ x ∈ M,x.pg.p.length≤16)→(iS M).length≤16*M.length:=by
  intro M
  induction M with
  |nil=>intro _;exact Nat.le_refl _
  |cons x M ih=>
   intro h;have h1:=ih (fun y hy=>h y (List.mem_cons_of_mem _ hy));have h2:=h x List.mem_cons_self;unfold iS at*;rw [List.flatMap_cons,List.length_append,List.length_map,List.length_cons];omega
 have:=this L hs
 omega
theorem GoodC.len {L:List CV} {out:List Pn} (h:GoodC L out) (hp:(iS L).length≤2048):out.length≤2048:=by
 have:=lA h.1 (m:=iS L) (fun s hs=>by
  obtain ⟨p,hp,rfl⟩:=List.mem_map.1 hs;exact (h.2 p hp).1)
 rw [List.length_map] at this;omega
theorem JV {O:List Dp} {E:List Pn} {d:Dp} {p:Pn} (h:fS O E d=some p):p.nm=d.nm∧∃ q ∈ E,p.a=q.a∧p.b=q.b∧p.c=q.c:=by
 unfold fS at h;cases hf:E.find? (isN d.nm) with
 |none=>rw [hf] at h;cases h
 |some q=>
  rw [hf] at h
  simp only at h
  split at h
  · cases h
    exact ⟨rfl,q,List.mem_of_find?_eq_some hf,rfl,rfl,rfl⟩
  · cases h
theorem uC {O:List Dp} {E:List Pn}:∀ {ds:List Dp} {ps:List Pn},eD O E ds=some ps→ps.length=ds.length∧∀ p ∈ ps,∃ d ∈ ds,fS O E d=some p
 |[],ps,h=>by cases h;exact ⟨rfl,fun p hp=>by cases hp⟩
 |d::ds,ps,h=>by
  cases hb:fS O E d with
  |none=>rw [fT hb] at h;cases h
  |some q=>
   rw [fU hb,Option.map_eq_some_iff] at h;obtain ⟨qs,h1,rfl⟩:=h;obtain ⟨h2,h3⟩:=uC h1;refine ⟨by rw [List.length_cons,List.length_cons,h2],fun p hp=> ?_⟩
   rcases List.mem_cons.1 hp with rfl|hp
   · exact ⟨d,List.mem_cons_self,hb⟩
   · obtain ⟨d',hd',e⟩:=h3 p hp
     exact ⟨d',List.mem_cons_of_mem _ hd',e⟩
theorem BQ {L:List CV} {O:List Dp} {E:List Pn} {s:ByteArray} {a b c:Int} {ps:List Pn} (h:fA L O E s a b c=some ps) (hs:∀ x ∈ L,eI x.pg.p) (he:∀ p ∈ E,I64 p.a∧I64 p.b∧I64 p.c):ps.length≤16∧∀ p ∈ ps,p.nm ∈ iS L∧bQ p.nm p.a p.b p.c:=by
 unfold fA at h;cases hx:bJ L s a b c with
 |none=>rw [hx] at h;cases h
 |some x=>
  rw [hx] at h;have hm:x ∈ L:=List.mem_of_find?_eq_some hx;obtain ⟨h1,h2⟩:=uC h;refine ⟨by rw [h1];exact (hs x hm).1,fun p hp=> ?_⟩;obtain ⟨d,hd,hb⟩:=h2 p hp;obtain ⟨hn,q,hq,ea,eb,ec⟩:=JV hb;refine ⟨List.mem_flatMap.2 ⟨x,hm,List.mem_map.2 ⟨d,hd,hn.symm⟩⟩,?_⟩;obtain ⟨i1,i2,i3⟩:=he q hq;refine ⟨?_,ea ▸ i1,eb ▸ i2,ec ▸ i3⟩;rw [hn]
  have:=(hs x hm).2 d hd
  unfold maxLen;omega
def dG (L:List CV) (O:List Dp) (E:List Pn):Nat→List Pn→List Pn→Option (List Pn)
 |_,[],out=>some out
 |0,_::_,_=>none
 |f+1,x::rest,out=>match fA L O E x.nm x.a x.b x.c with
  |none=>none
  |some ps=>dG L O E f (rest++aK out ps) (out++aK out ps)
theorem fC (L:List CV) (O:List Dp) (E:List Pn) (f:Nat) (out:List Pn):dG L O E f [] out=some out:=by cases f<;>rfl
theorem qD {L:List CV} {O:List Dp} {E:List Pn} {f:Nat} {x:Pn} {rest out:List Pn} (h:fA L O E x.nm x.a x.b x.c=none):dG L O E (f+1) (x::rest) out=none:=by
 show (match fA L O E x.nm x.a x.b x.c with|none=>none|some ps=>dG L O E f (rest++aK out ps) (out++aK out ps))=none;rw [h]
theorem iF {L:List CV} {O:List Dp} {E:List Pn} {f:Nat} {x:Pn} {rest out ps:List Pn} (h:fA L O E x.nm x.a x.b x.c=some ps):dG L O E (f+1) (x::rest) out=dG L O E f (rest++aK out ps) (out++aK out ps):=by
 show (match fA L O E x.nm x.a x.b x.c with|none=>none|some ps=>dG L O E f (rest++aK out ps) (out++aK out ps))=_;rw [h]
def pE (x y:Pn):Int:=Lib.compareBytes x.nm.data.toList y.nm.data.toList
def ltP (x y:Pn):Bool:=bytesBefore x.nm.data.toList y.nm.data.toList
theorem nU (x y:Pn):ltOf pE x y=ltP x y:=by
 unfold ltOf pE ltP;rw [Bool.eq_iff_iff,decide_eq_true_iff];exact jE _ _
theorem OL:SWO (ltOf pE) where
 irrefl x:=by rw [nU];exact WideAt.bytes_irrefl _
 trans x y z h1 h2:=by rw [nU] at*;exact WideShapes.bytes_trans _ _ _ h1 h2
 ntrans x y z h1 h2:=by rw [nU] at*;exact fO h1 h2
theorem BS (x y:Pn) (w:World):Calls Tryz.prog 223 #[.agg #[.string x.nm,.int .i64 x.a,.int .i64 x.b,.int .i64 x.c],.agg #[.string y.nm,.int .i64 y.a,.int .i64 y.b,.int .i64 y.c]] w fun e w'=>e= .returned (.int .i64 (pE x y))∧Gd w w':=by
 have HSC:Hid (∀ W,Calls Tryz.prog 105 #[.string x.nm,.string y.nm] W fun e w'=>e= .returned (.int .i64 (pE x y))∧w'=W):=fun W=>Tryz.strings_Compare _ _ W
 generalize pE x y=r at*
 go_enter Tryz.func223,Tryz.ntmps223
 go_wp2_with (go_at_call 105;refine (HSC.out _).mono ?_;rintro e w1 ⟨rfl,rfl⟩)
 go_ret;exact ⟨rfl,Gd.box2 _ _ _⟩
theorem BU {w:World} {base:Nat} {v:Value} {V:List Pn} (hown:OwnPn w base v V) (hz:V.length≤1000000000):
 Calls Tryz.prog 75 #[v,.func (.func 223) #[] #[]] w fun e w'=>e= .returned (.tuple #[])∧∃ ts:List Pn,ts.Perm V∧(ts.Pairwise fun x y=>ltP y x=false)∧OwnPn w' base v ts∧w.grownBy w' v.ownBlock:=by
 haveI:Inhabited Pn:=⟨⟨⟨#[]⟩,0,0,0⟩⟩
 have eg:∀ args w,(callFunc 223 args).run Tryz.prog w= .ok (.enter 223 args) w:=enters_of Tryz.func223 (by kernel_rfl) rfl;have h:=tJ Tryz.sortP 4 (by decide) Tryz.isAgg80 Tryz.sizeOf80 bD (fun _=>rfl) (fun x v hv=>by simp [bD] at hv;rcases hv with rfl|rfl|rfl|rfl<;>rfl) pE OL 223 eg (fun x y W=>BS _ _ W) hown (by omega);simp only [nU] at h;exact h
theorem qE (L:List Pn):∀ u ∈ L.flatMap bD,u.oneCell'=true:=fun u hu=>by
 obtain ⟨x,_,hx⟩:=List.mem_flatMap.1 hu;simp [bD] at hx
 rcases hx with rfl|rfl|rfl|rfl<;>rfl
theorem wS (w:World):(w.alloc (.cells #[] 80)).ownsRow w.heap.size 80 4 (.slice (some ⟨w.heap.size,0,none⟩) 0 0) 0 []:=
 ⟨rfl,Or.inr ⟨w.heap.size,0,#[],rfl,Nat.le_refl _,by show (w.heap.push _)[w.heap.size]? =_;rw [Array.getElem?_push,if_pos rfl],Nat.le_refl _,by decide,rfl,rfl⟩⟩
set_option maxHeartbeats 1600000 in
theorem lZ {L:List Pn} {m:Nat} (hm:L.length=m) {g o c:Nat} {w:World} (hg:g<w.heap.size) (h:∀ j u,(L.flatMap bD)[j]? =some u→w.cell? ⟨g,o+j,none⟩=some u) (hl:L.length≤1000000):Calls Tryz.prog 222 #[.slice (some ⟨g,o,none⟩) m c] w fun e w'=>∃ v',e= .returned v'∧OwnPn w' w.heap.size v' L∧Below w.heap.size w w':=by
 subst hm
 have HNW:Hid (∀ j u,(L.flatMap bD)[j]? =some u→(w.alloc (.cells #[] 80)).cell? ((⟨g,o,none⟩:Addr).add j)=some u):=fun j u hj=>by
  have e2:(⟨g,o,none⟩:Addr).add j=⟨g,o+j,none⟩:=by simp [Addr.add]
  rw [e2];exact ((aD w (.cells #[] 80)).cell (p:=⟨g,o+j,none⟩) hg).trans (h j u hj)
 have HRW:=aA (wS w);have HLE:Hid ((L.flatMap bD).length=L.length*4):=eB bD 4 (fun _=>rfl) L;clear h;have q0:∀ w,(binOp .eql 40 (.slice (some ⟨g,o,none⟩) L.length c) (.slice none 0 0)).run Tryz.prog w= .ok (.bool false) w:=fun w=>run_eql_slice_nil w 40 80 (some ⟨g,o,none⟩) L.length c Tryz.underlying40
 go_enter Tryz.func222,Tryz.ntmps222
 go_wp2_with (at_builtin;refine cH (B:=w.heap.size) (wx:=w.alloc (.cells #[] 80)) (news:=L.flatMap bD) (xs:=[]) (n:=0) gV Tryz.underlying40 rfl (by decide) (by decide) rfl (.tmp 5) (.tmp 6) rfl rfl HRW.out (by simp) rfl HLE.out HNW.out (qE L) (by omega) ?_;intro v1 w1 ho hgr hat;have HO:Hid (OwnPn w1 w.heap.size v1 L):=(by have e:=ho;rw [Nat.zero_add,List.nil_append] at e;exact e);have HB:Hid (Below w.heap.size w w1):=(aD w (.cells #[] 80)).trans (dN (B:=w.heap.size) hgr (fun g e=>by cases e;exact Nat.le_refl _) (by simp));clear ho hgr hat)
 go_ret;exact ⟨_,rfl,HO.out,HB.out⟩
end Go.Proofs.YtpfemjlhklnfoaaGreatDoor
