/- Lm1, Gl4: their declarations that are needed, laid in one text, remarks and blanks left out. -/
import Derived.Test.YtpfemjlhklnfoaaGreatDoorMh27
import Derived.Test.YtpfemjlhklnfoaaGreatDoorMh28
namespace Go.Proofs.YtpfemjlhklnfoaaGreatDoor.Lo
open Go.RowKit
set_option maxRecDepth 100000
open Sc (KeepP aA aG)
def ltS (s t:ByteArray):Bool:=Op.bytesLess s.toList t.toList
def oT (q s:ByteArray):Bool:=Sc.aQ s.data.toList&&ltS q s
def mF:ByteArray→List Pn→Bool
 |_,[]=>true
 |q,p::r=>oT q p.nm&&aN p.a p.b p.c&&mF p.nm r
def iP (n:Int):ByteArray→List Eg→Bool
 |_,[]=>true
 |q,e::r=>oT q e.lb&&decide (1≤e.to)&&decide (e.to<n)&&iP n e.lb r
def gB (L:List Pn):Bool:=decide (L.length≤128)&&mF ⟨#[]⟩ L
def cF (n:Int) (L:List Eg):Bool:=decide (L.length≤128)&&iP n ⟨#[]⟩ L
def fM (n:Nd):Bool:=decide (n.nm.size=0)&&decide (n.a=0∧n.b=0∧n.c=0)&&decide (n.cx.length=0)
def cZ (n:Nd):Bool:=Sc.aQ n.nm.data.toList&&aN n.a n.b n.c&&gB n.cx
def dS:List Nd→Bool
 |[]=>false
 |n::r=>decide (r.length+1≤128)&&fM n&&r.all cZ&&(n::r).all fun m=>cF (r.length+1) m.ed
theorem vR (q s:ByteArray) (w:World):Calls Tryz.prog 164 #[.string q,.string s] w fun e w'=>e= .returned (.bool (oT q s))∧w'=w:=by
 have HN:Hid (Calls Tryz.prog 162 #[.string s] w fun e w'=>e= .returned (.bool (Sc.aQ s.data.toList))∧w'=w):=Sc.jW s w;have HF:Hid (oT q s=(Sc.aQ s.data.toList&&Op.bytesLess q.toList s.toList)):=rfl;cases hn:Sc.aQ s.data.toList
 · rw [hn] at HN HF
   go_enter Tryz.func164,Tryz.ntmps164
   go_wp2_with (go_at_call 162;refine HN.out.mono ?_;rintro e w1 ⟨rfl,rfl⟩)
   go_ret;exact ⟨aC HF.out.symm,rfl⟩
 · rw [hn] at HN HF
   go_enter Tryz.func164,Tryz.ntmps164
   go_wp2_with (go_at_call 162;refine HN.out.mono ?_;rintro e w1 ⟨rfl,rfl⟩)
   go_ret;exact ⟨aC (by rw [HF.out];simp),rfl⟩
def BxPn (w:World) (N:Nat) (p:Pn):Prop:=(w.cell? ⟨N,0,none⟩=some (.string p.nm)∧w.cell? ⟨N,1,none⟩=some (.int .i64 p.a)∧w.cell? ⟨N,2,none⟩=some (.int .i64 p.b)∧w.cell? ⟨N,3,none⟩=some (.int .i64 p.c))∧N<w.heap.size
theorem II (N:Nat) (p:Pn):KeepP fun w1=>BxPn w1 N p:=fun w w' h hb=>by
 obtain ⟨⟨h0,h1,h2,h3⟩,hg⟩:=h;have q:∀ i,w'.cell? ⟨N,i,none⟩=w.cell? ⟨N,i,none⟩:=fun i=>hb.cell (p:=⟨N,i,none⟩) hg
 exact ⟨⟨by rw [q];exact h0,by rw [q];exact h1,by rw [q];exact h2,by rw [q];exact h3⟩,Nat.lt_of_lt_of_le hg hb.size⟩
theorem BxPn.new {w:World} {N:Nat} (hN:w.heap.size=N) (p:Pn):BxPn (w.alloc (.cells #[.string p.nm,.int .i64 p.a,.int .i64 p.b,.int .i64 p.c] 80)) N p:=by
 subst hN;refine ⟨⟨?_,?_,?_,?_⟩,?_⟩<;>simp
def BxEg (w:World) (N:Nat) (p:Eg):Prop:=(w.cell? ⟨N,0,none⟩=some (.string p.lb)∧w.cell? ⟨N,1,none⟩=some (.int .i64 p.to))∧N<w.heap.size
theorem BxEg.new {w:World} {N:Nat} (hN:w.heap.size=N) (p:Eg):BxEg (w.alloc (.cells #[.string p.lb,.int .i64 p.to] 77)) N p:=by
 subst hN;refine ⟨⟨?_,?_⟩,?_⟩<;>simp
theorem xZ {L:List Pn} (h:¬ L.length≤128):gB L=false:=by unfold gB;rw [decide_eq_false h];rfl
theorem yA {n:Int} {L:List Eg} (h:¬ L.length≤128):cF n L=false:=by unfold cF;rw [decide_eq_false h];rfl
set_option maxHeartbeats 3200000 in
theorem oU {L:List Pn} {v:Value} {w:World} (hv:PinsAt w v L):
 Calls Tryz.prog 163 #[v] w fun e w'=>e= .returned (.bool (gB L))∧Below w.heap.size w w':=by
 have HD:Hid (∀ w',Below w.heap.size w w'→PinsAt w' v L):=fun w' hb=>hv.below hb
 obtain ⟨ad,cap,rfl⟩:=hv.sl;clear hv
 by_cases hl:L.length≤128
 · have HM:Hid (gB L=mF ⟨#[]⟩ L):=by unfold Hid gB;rw [decide_eq_true hl];rfl
   have hli:decide ((128:Int)<(L.length:Int))=false:=decide_eq_false (by omega)
   go_enter Tryz.func163,Tryz.ntmps163
   go_wp2
   go_loopw [3,11] (fun va vi wr=>∃ (k:Nat) (q:ByteArray),k≤L.length∧vi= .int .i64 k∧va= .string q∧Below w.heap.size w wr∧mF ⟨#[]⟩ L=mF q (L.drop k)) (fun _ i _=>L.length - (intOf i).toNat)
   case atStart=>exact ⟨0,⟨#[]⟩,Nat.zero_le _,rfl,rfl,Below.refl _ _,by rw [List.drop_zero]⟩
   case round=>
    obtain ⟨k,q,hk,rfl,rfl,hb,hst⟩:=hrel;have HB:=aA hb
    by_cases hlt:k<L.length
    · obtain ⟨ad',cap',e,_,hcs⟩:=HD.out wr hb
      cases e
      obtain ⟨g,o,rfl,hg,hcs⟩:∃ g o,ad=some ⟨g,o,none⟩∧g<wr.heap.size∧∀ i (h:i<L.length),PnIn wr g (o+i*4) L[i]:=by
       rcases hcs with h|h
       · rw [h] at hlt;simp at hlt
       · exact h
      obtain ⟨⟨c0,c1,c2,c3⟩,_⟩:=hcs k hlt
      have HST:Hid (mF ⟨#[]⟩ L=(oT q L[k].nm&&aN L[k].a L[k].b L[k].c&&mF L[k].nm (L.drop (k+1)))):=by
       unfold Hid;rw [hst,List.drop_eq_getElem_cons hlt];rfl
      clear hcs hb hst;generalize L[k]=p at*;have HA:Hid (Below w.heap.size w (wr.alloc (.cells #[.string p.nm,.int .i64 p.a,.int .i64 p.b,.int .i64 p.c] 80))∧BxPn (wr.alloc (.cells #[.string p.nm,.int .i64 p.a,.int .i64 p.b,.int .i64 p.c] 80)) wr.heap.size p):=⟨aB HB.out (aD _ _),BxPn.new rfl _⟩;have HF:=aA (vR q p.nm);have HV:=aA (dX p.a p.b p.c);generalize oT q p.nm=bf at*;generalize aN p.a p.b p.c=bv at*;cases bf
      · have HR:Hid (gB L=false):=by unfold Hid;rw [HM.out,HST.out];rfl
        go_wp2_with (go_at_call 164;refine (HF.out _).mono ?_;rintro e w1 ⟨rfl,rfl⟩)
        go_ret;exact ⟨aC HR.out.symm,HA.out.1⟩
      · cases bv
        · have HR:Hid (gB L=false):=by unfold Hid;rw [HM.out,HST.out];rfl
          go_wp2_with (first
           |(go_at_call 164;refine (HF.out _).mono ?_;rintro e w1 ⟨rfl,rfl⟩)
           |(go_at_call 97;refine (HV.out _).mono ?_;rintro e w2 ⟨rfl,ok⟩;have HA2:=aA (aB HA.out.1 ok);clear ok))
          go_ret;exact ⟨aC HR.out.symm,HA2.out⟩
        · have HR:Hid (mF ⟨#[]⟩ L=mF p.nm (L.drop (k+1))):=by unfold Hid;rw [HST.out];rfl
          go_wp2_with (first
           |(go_at_call 164;refine (HF.out _).mono ?_;rintro e w1 ⟨rfl,rfl⟩)
           |(go_at_call 97;refine (HV.out _).mono ?_;rintro e w2 ⟨rfl,ok⟩;have HA2:Hid (Below w.heap.size w w2∧BxPn w2 wr.heap.size p):=⟨aB HA.out.1 ok,II _ _ _ _ HA.out.2 ok⟩;obtain ⟨⟨y0,y1,y2,y3⟩,y4⟩:=HA2.out.2;clear ok))
          exact ⟨⟨k+1,p.nm,by omega,by go_num,rfl,HA2.out.1,HR.out⟩,by simp [intOf];omega⟩
    · obtain rfl:k=L.length:=by omega
      rw [List.drop_length] at hst;have HR:Hid (gB L=true):=by unfold Hid;rw [HM.out,hst];rfl
      clear hst hb
      go_wp2
      go_ret;exact ⟨aC HR.out.symm,HB.out⟩
 · have HR:=aA (xZ hl)
   have hli:decide ((128:Int)<(L.length:Int))=true:=decide_eq_true (by omega)
   go_enter Tryz.func163,Tryz.ntmps163
   go_wp2
   go_ret;exact ⟨aC HR.out.symm,Below.refl _ _⟩
set_option maxHeartbeats 3200000 in
theorem kR {L:List Eg} {n:Int} {v:Value} {w:World} (hv:EdgesAt w v L):
 Calls Tryz.prog 109 #[v,.int .i64 n] w fun e w'=>e= .returned (.bool (cF n L))∧Below w.heap.size w w':=by
 have HD:Hid (∀ w',Below w.heap.size w w'→EdgesAt w' v L):=fun w' hb=>hv.below hb
 obtain ⟨ad,cap,rfl⟩:=hv.sl;clear hv
 by_cases hl:L.length≤128
 · have HM:Hid (cF n L=iP n ⟨#[]⟩ L):=by unfold Hid cF;rw [decide_eq_true hl];rfl
   have hli:decide ((128:Int)<(L.length:Int))=false:=decide_eq_false (by omega)
   go_enter Tryz.func109,Tryz.ntmps109
   go_wp2
   go_loopw [5,13] (fun va vi wr=>∃ (k:Nat) (q:ByteArray),k≤L.length∧vi= .int .i64 k∧va= .string q∧Below w.heap.size w wr∧iP n ⟨#[]⟩ L=iP n q (L.drop k)) (fun _ i _=>L.length - (intOf i).toNat)
   case atStart=>exact ⟨0,⟨#[]⟩,Nat.zero_le _,rfl,rfl,Below.refl _ _,by rw [List.drop_zero]⟩
   case round=>
    obtain ⟨k,q,hk,rfl,rfl,hb,hst⟩:=hrel;have HB:=aA hb
    by_cases hlt:k<L.length
    · obtain ⟨ad',cap',e,_,hcs⟩:=HD.out wr hb
      cases e
      obtain ⟨g,o,rfl,hg,hcs⟩:∃ g o,ad=some ⟨g,o,none⟩∧g<wr.heap.size∧∀ i (h:i<L.length),EgIn wr g (o+i*2) L[i]:=by
       rcases hcs with h|h
       · rw [h] at hlt;simp at hlt
       · exact h
      obtain ⟨⟨c0,c1⟩,_⟩:=hcs k hlt
      have HST:Hid (iP n ⟨#[]⟩ L=(oT q L[k].lb&&decide (1≤L[k].to)&&decide (L[k].to<n)&&iP n L[k].lb (L.drop (k+1)))):=by
       unfold Hid;rw [hst,List.drop_eq_getElem_cons hlt];rfl
      clear hcs hb hst;generalize L[k]=p at*;have HA:Hid (Below w.heap.size w (wr.alloc (.cells #[.string p.lb,.int .i64 p.to] 77))∧BxEg (wr.alloc (.cells #[.string p.lb,.int .i64 p.to] 77)) wr.heap.size p):=⟨aB HB.out (aD _ _),BxEg.new rfl _⟩;have HF:=aA (vR q p.lb);generalize oT q p.lb=bf at*;cases bf
      · have HR:Hid (cF n L=false):=by unfold Hid;rw [HM.out,HST.out];rfl
        go_wp2_with (go_at_call 164;refine (HF.out _).mono ?_;rintro e w1 ⟨rfl,rfl⟩)
        go_ret;exact ⟨aC HR.out.symm,HA.out.1⟩
      · by_cases h1:1≤p.to
        · have h1i:decide (p.to<1)=false:=decide_eq_false (by omega)
          by_cases h2:p.to<n
          · have h2i:decide (n≤p.to)=false:=decide_eq_false (by omega)
            have HR:Hid (iP n ⟨#[]⟩ L=iP n p.lb (L.drop (k+1))):=by unfold Hid;rw [HST.out,decide_eq_true h1,decide_eq_true h2];rfl
            go_wp2_with (go_at_call 164;refine (HF.out _).mono ?_;rintro e w1 ⟨rfl,rfl⟩)
            exact ⟨⟨k+1,p.lb,by omega,by go_num,rfl,HA.out.1,HR.out⟩,by simp [intOf];omega⟩
          · have h2i:decide (n≤p.to)=true:=decide_eq_true (by omega)
            have HR:Hid (cF n L=false):=by unfold Hid;rw [HM.out,HST.out,decide_eq_false h2];simp
            go_wp2_with (go_at_call 164;refine (HF.out _).mono ?_;rintro e w1 ⟨rfl,rfl⟩)
            go_ret;exact ⟨aC HR.out.symm,HA.out.1⟩
        · have h1i:decide (p.to<1)=true:=decide_eq_true (by omega)
          have HR:Hid (cF n L=false):=by unfold Hid;rw [HM.out,HST.out,decide_eq_false h1];simp
          go_wp2_with (go_at_call 164;refine (HF.out _).mono ?_;rintro e w1 ⟨rfl,rfl⟩)
          go_ret;exact ⟨aC HR.out.symm,HA.out.1⟩
    · obtain rfl:k=L.length:=by omega
      rw [List.drop_length] at hst;have HR:Hid (cF n L=true):=by unfold Hid;rw [HM.out,hst];rfl
      clear hst hb
      go_wp2
      go_ret;exact ⟨aC HR.out.symm,HB.out⟩
 · have HR:=aA (yA (n:=n) hl)
   have hli:decide ((128:Int)<(L.length:Int))=true:=decide_eq_true (by omega)
   go_enter Tryz.func109,Tryz.ntmps109
   go_wp2
   go_ret;exact ⟨aC HR.out.symm,Below.refl _ _⟩
def BxNd (w:World) (N:Nat) (n:Nd) (vc ve:Value):Prop:=(w.cell? ⟨N,0,none⟩=some (.string n.nm)∧w.cell? ⟨N,1,none⟩=some (.int .i64 n.a)∧w.cell? ⟨N,2,none⟩=some (.int .i64 n.b)∧w.cell? ⟨N,3,none⟩=some (.int .i64 n.c)∧w.cell? ⟨N,4,none⟩=some vc∧w.cell? ⟨N,5,none⟩=some ve)∧N<w.heap.size
theorem aZ (N:Nat) (n:Nd) (vc ve:Value):KeepP fun w1=>BxNd w1 N n vc ve:=fun w w' h hb=>by
 obtain ⟨⟨h0,h1,h2,h3,h4,h5⟩,hg⟩:=h;have q:∀ i,w'.cell? ⟨N,i,none⟩=w.cell? ⟨N,i,none⟩:=fun i=>hb.cell (p:=⟨N,i,none⟩) hg
 exact ⟨⟨by rw [q];exact h0,by rw [q];exact h1,by rw [q];exact h2,by rw [q];exact h3,by rw [q];exact h4,by rw [q];exact h5⟩,Nat.lt_of_lt_of_le hg hb.size⟩
theorem BxNd.new {w:World} {N:Nat} (hN:w.heap.size=N) (n:Nd) (vc ve:Value):BxNd (w.alloc (.cells #[.string n.nm,.int .i64 n.a,.int .i64 n.b,.int .i64 n.c,vc,ve] 67)) N n vc ve:=by
 subst hN;refine ⟨⟨?_,?_,?_,?_,?_,?_⟩,?_⟩<;>simp
set_option maxHeartbeats 3200000 in
theorem sS {n:Nd} {vc ve:Value} {w:World} (hc:PinsAt w vc n.cx) (he:EdgesAt w ve n.ed):
 Calls Tryz.prog 108 #[.agg #[.string n.nm,.int .i64 n.a,.int .i64 n.b,.int .i64 n.c,vc,ve]] w fun e w'=>e= .returned (.bool (cZ n))∧Below w.heap.size w w':=by
 have HN:=aA (Sc.jW n.nm);have HV:=aA (dX n.a n.b n.c);have HC:Hid (∀ w1,Below w.heap.size w w1→Calls Tryz.prog 163 #[vc] w1 fun e w'=>e= .returned (.bool (gB n.cx))∧Below w1.heap.size w1 w'):=fun w1 hb=>oU (hc.below hb)
 have HL:Hid (cZ n=(Sc.aQ n.nm.data.toList&&aN n.a n.b n.c&&gB n.cx)):=rfl;obtain ⟨ac,cc,rfl⟩:=hc.sl;obtain ⟨ae,ce,rfl⟩:=he.sl;clear hc he;have HA:Hid (Below w.heap.size w (w.alloc (.cells #[.string n.nm,.int .i64 n.a,.int .i64 n.b,.int .i64 n.c,.slice ac n.cx.length cc,.slice ae n.ed.length ce] 67))∧BxNd (w.alloc (.cells #[.string n.nm,.int .i64 n.a,.int .i64 n.b,.int .i64 n.c,.slice ac n.cx.length cc,.slice ae n.ed.length ce] 67)) w.heap.size n (.slice ac n.cx.length cc) (.slice ae n.ed.length ce)):=⟨aD _ _,BxNd.new rfl _ _ _⟩;generalize cZ n=lb at*;generalize Sc.aQ n.nm.data.toList=b1 at*;generalize aN n.a n.b n.c=b2 at*;generalize gB n.cx=b3 at*;cases b1
 · have HR:Hid (lb=false):=by unfold Hid;rw [HL.out];rfl
   go_enter Tryz.func108,Tryz.ntmps108
   go_wp2_with (go_at_call 162;refine (HN.out _).mono ?_;rintro e w1 ⟨rfl,rfl⟩)
   go_ret;exact ⟨aC HR.out.symm,HA.out.1⟩
 · cases b2
   · have HR:Hid (lb=false):=by unfold Hid;rw [HL.out];rfl
     go_enter Tryz.func108,Tryz.ntmps108
     go_wp2_with (first
      |(go_at_call 162;refine (HN.out _).mono ?_;rintro e w1 ⟨rfl,rfl⟩)
      |(go_at_call 97;refine (HV.out _).mono ?_;rintro e w2 ⟨rfl,ok⟩;have HA2:=aA (aB HA.out.1 ok);clear ok))
     go_ret;exact ⟨aC HR.out.symm,HA2.out⟩
   · have HR:Hid (lb=b3):=by unfold Hid;rw [HL.out];rfl
     go_enter Tryz.func108,Tryz.ntmps108
     go_wp2_with (first
      |(go_at_call 162;refine (HN.out _).mono ?_;rintro e w1 ⟨rfl,rfl⟩)
      |(go_at_call 97;refine (HV.out _).mono ?_;rintro e w2 ⟨rfl,ok⟩;have HA2:Hid (Below w.heap.size w w2∧BxNd w2 w.heap.size n (.slice ac n.cx.length cc) (.slice ae n.ed.length ce)):=⟨aB HA.out.1 ok,aZ _ _ _ _ _ _ HA.out.2 ok⟩;obtain ⟨⟨y0,y1,y2,y3,y4,y5⟩,y6⟩:=HA2.out.2;clear ok)
      |(go_at_call 163;refine (HC.out _ HA2.out.1).mono ?_;rintro e w3 ⟨rfl,ok⟩;have HA3:=aA (aB HA2.out.1 ok);clear ok))
     go_ret;exact ⟨aC HR.out.symm,HA3.out⟩
theorem OO (p q r p' q' r':Int) (w:World):(binOp .eql 31 (.agg #[.int .i64 p,.int .i64 q,.int .i64 r]) (.agg #[.int .i64 p',.int .i64 q',.int .i64 r'])).run Tryz.prog w= .ok (.bool (decide (p=p')&&decide (q=q')&&decide (r=r'))) w:=by
 have u3:=Tryz.underlying3;have a3:=Tryz.isAgg3;have z3:=Tryz.sizeOf3;rw [run_eql_struct,show (10000:Nat)=9999+1 from rfl,run_equalIn_agg w 9999 31 _ _ (by kernel_rfl) (by kernel_rfl)];simp only [Program.fieldsOf,Tryz.underlying31]
 by_cases h1:p=p'
 · by_cases h2:q=q'
   · by_cases h3:r=r'
     · subst h1 h2 h3;go_simp
     · subst h1 h2;simp only [h3,decide_false,Bool.and_false];go_simp
   · subst h1;simp only [h2,decide_false,Bool.and_false,Bool.false_and];go_simp
 · simp only [h1,decide_false,Bool.false_and];go_simp
set_option maxHeartbeats 3200000 in
theorem sT {n:Nd} {vc ve:Value} {w:World} (hc:PinsAt w vc n.cx) (he:EdgesAt w ve n.ed):
 Calls Tryz.prog 107 #[.agg #[.string n.nm,.int .i64 n.a,.int .i64 n.b,.int .i64 n.c,vc,ve]] w fun e w'=>e= .returned (.bool (fM n))∧Below w.heap.size w w':=by
 obtain ⟨ac,cc,rfl⟩:=hc.sl;obtain ⟨ae,ce,rfl⟩:=he.sl;clear hc he
 have HL:Hid (fM n=(n.nm.toList.isEmpty&&(decide (n.a=0)&&decide (n.b=0)&&decide (n.c=0))&&decide (n.cx.length=0))):=by
  unfold Hid fM
  have e:decide (n.nm.size=0)=n.nm.toList.isEmpty:=by
   rw [ByteArray.toList_eq,Bool.eq_iff_iff,decide_eq_true_eq,List.isEmpty_iff_length_eq_zero];rfl
  rw [e];simp only [Bool.decide_and,Bool.and_assoc]
 have hv:=OO n.a n.b n.c 0 0 0;have hgd:=iW;have HA:Hid (Below w.heap.size w (w.alloc (.cells #[.string n.nm,.int .i64 n.a,.int .i64 n.b,.int .i64 n.c,.slice ac n.cx.length cc,.slice ae n.ed.length ce] 67))):=aD _ _;generalize fM n=fb at*;generalize (decide (n.a=0)&&decide (n.b=0)&&decide (n.c=0))=xv at*;cases hx:n.nm.toList.isEmpty
 · have hx2:(n.nm.toList==[])=false:=by rw [←hx];cases n.nm.toList<;>rfl
   have HR:Hid (fb=false):=by unfold Hid;rw [HL.out,hx];rfl
   go_enter Tryz.func107,Tryz.ntmps107
   go_wp2
   go_ret;exact ⟨aC HR.out.symm,HA.out⟩
 · have hx2:(n.nm.toList==[])=true:=by rw [←hx];cases n.nm.toList<;>rfl
   cases xv
   · have HR:Hid (fb=false):=by unfold Hid;rw [HL.out,hx];rfl
     go_enter Tryz.func107,Tryz.ntmps107
     go_wp2
     go_ret;exact ⟨aC HR.out.symm,HA.out⟩
   · by_cases hl:n.cx.length=0
     · have hl2:((n.cx.length:Int)==0)=true:=by rw [hl];rfl
       have HR:Hid (fb=true):=by unfold Hid;rw [HL.out,hx,decide_eq_true hl];rfl
       clear hl
       go_enter Tryz.func107,Tryz.ntmps107
       go_wp2
       go_ret;exact ⟨aC (by first|exact HR.out.symm|(rw [HR.out];exact hl2)),HA.out⟩
     · have hl2:((n.cx.length:Int)==0)=false:=by rw [beq_eq_false_iff_ne];omega
       have HR:Hid (fb=false):=by unfold Hid;rw [HL.out,hx,decide_eq_false hl];rfl
       clear hl
       go_enter Tryz.func107,Tryz.ntmps107
       go_wp2
       go_ret;exact ⟨aC (by first|exact HR.out.symm|(rw [HR.out];exact hl2)),HA.out⟩
def BxG (w:World) (N:Nat) (v:Value):Prop:=w.cell? ⟨N,0,none⟩=some v∧N<w.heap.size
theorem bY (N:Nat) (v:Value):KeepP fun w1=>BxG w1 N v:=fun _ _ h hb=>⟨(hb.cell (p:=⟨N,0,none⟩) h.2).trans h.1,Nat.lt_of_lt_of_le h.2 hb.size⟩
theorem BxG.new {w:World} {N:Nat} (hN:w.heap.size=N) (v:Value):BxG (w.alloc (.cells #[v] 55)) N v:=by
 subst hN;exact ⟨by simp,by simp⟩
set_option maxHeartbeats 6400000 in
theorem oV {G:List Nd} {v:Value} {w:World} (h:NodesAt w v G):
 Calls Tryz.prog 59 #[.agg #[v]] w fun e w'=>e= .returned (.bool (dS G))∧Below w.heap.size w w':=by
 have HD:Hid (∀ w',Below w.heap.size w w'→NodesAt w' v G):=fun w' hb=>h.below hb
 obtain ⟨ad,cap,rfl,hcap,hcs⟩:=h;cases G with
 |nil=>
  rw [List.length_nil]
  go_enter Tryz.func59,Tryz.ntmps59
  go_wp2
  go_ret;exact ⟨rfl,aD _ _⟩
 |cons n0 r=>
  obtain ⟨g,o,rfl,hg,hcs⟩:∃ g o,ad=some ⟨g,o,none⟩∧g<w.heap.size∧∀ i (h:i<(n0::r).length),∃ vc ve,NdIn w g (o+i*6) (n0::r)[i] vc ve:=by
   rcases hcs with h|h
   · cases h
   · exact h
  have HX:Hid (∀ W,Below w.heap.size w W→∀ i (h:i<(n0::r).length),∃ vc ve,NdIn W g (o+i*6) (n0::r)[i] vc ve):=fun W hb i hi=>by obtain ⟨vc,ve,h⟩:=hcs i hi;exact ⟨vc,ve,h.below hb⟩
  obtain ⟨vc0,ve0,⟨c0,c1,c2,c3,c4,c5⟩,⟨hp0,he0⟩,_⟩:=hcs 0 (by simp);clear hcs HD;have HMG:Hid (dS (n0::r)=(decide (r.length+1≤128)&&fM n0&&r.all cZ&&(n0::r).all fun m=>cF (r.length+1) m.ed)):=rfl;rw [List.length_cons] at hcap ⊢;obtain ⟨nn,hnn⟩:∃ nn,r.length+1=nn:=⟨_,rfl⟩;have HNN:=aA hnn;rw [hnn] at hcap ⊢;have hni:((r.length:Int)+1)=(nn:Int):=by omega
  rw [hni] at HMG;have HF:Hid (∀ W,Below w.heap.size w W→Calls Tryz.prog 107 #[.agg #[.string n0.nm,.int .i64 n0.a,.int .i64 n0.b,.int .i64 n0.c,vc0,ve0]] W fun e w'=>e= .returned (.bool (fM n0))∧Below W.heap.size W w'):=fun W hb=>sT (hp0.below hb) (he0.below hb)
  obtain ⟨ac0,cc0,rfl⟩:=hp0.sl;obtain ⟨ae0,ce0,rfl⟩:=he0.sl;have HB0:Hid (Below w.heap.size w (w.alloc (.cells #[.slice (some ⟨g,o,none⟩) nn cap] 55))∧BxG (w.alloc (.cells #[.slice (some ⟨g,o,none⟩) nn cap] 55)) w.heap.size (.slice (some ⟨g,o,none⟩) nn cap)):=⟨aD _ _,BxG.new rfl _⟩;have HKB:Hid (KeepP fun W=>Below w.heap.size w W∧BxG W w.heap.size (.slice (some ⟨g,o,none⟩) nn cap)):=(aG w).and (bY _ _);have lift:∀ i v,w.cell? ⟨g,i,none⟩=some v→(w.alloc (.cells #[.slice (some ⟨g,o,none⟩) nn cap] 55)).cell? ⟨g,i,none⟩=some v:=fun i v h=>((aD w _).cell (p:=⟨g,i,none⟩) hg).trans h
  simp only [Nat.zero_mul,Nat.add_zero,List.getElem_cons_zero] at c0 c1 c2 c3 c4 c5;have k0:=lift _ _ c0;have k1:=lift _ _ c1;have k2:=lift _ _ c2;have k3:=lift _ _ c3;have k4:=lift _ _ c4;have k5:=lift _ _ c5;have hn0:((nn:Int)==0)=false:=by rw [beq_eq_false_iff_ne];omega
  have hn1:(0:Int)<(nn:Int):=by omega
  have hn2:0<nn:=by omega
  clear c0 c1 c2 c3 c4 c5 lift hp0 he0
  by_cases hbig:nn≤128
  · have hb128:decide ((128:Int)<(nn:Int))=false:=decide_eq_false (by omega)
    cases hfb:fM n0
    · have HR:Hid (dS (n0::r)=false):=by unfold Hid;rw [HMG.out,hfb];simp
      rw [hfb] at HF;clear hnn hni HMG
      go_enter Tryz.func59,Tryz.ntmps59
      go_wp2_with (go_at_call 107;refine (HF.out _ HB0.out.1).mono ?_;rintro e w1 ⟨rfl,ok⟩;have HB1:=aA (aB HB0.out.1 ok);clear ok)
      go_ret;exact ⟨aC HR.out.symm,HB1.out⟩
    · have HM2:Hid (dS (n0::r)=(r.all cZ&&(n0::r).all fun m=>cF nn m.ed)):=by unfold Hid;rw [HMG.out,hfb,decide_eq_true (by omega)];simp
      rw [hfb] at HF;clear HMG hni
      by_cases hcap1:cap=1
      · subst hcap1
        have hr00:r.length≤0:=by omega
        have hc1:(1:Int)≤(nn:Int):=by omega
        have hc2:(nn:Int)≤1:=by omega
        have hrl:((nn:Int) - 1)=(r.length:Int):=by omega
        have hrn:nn - 1=r.length:=by omega
        clear hnn
        go_enter Tryz.func59,Tryz.ntmps59
        go_wp2_with (go_at_call 107;refine (HF.out _ HB0.out.1).mono ?_;rintro e w1 ⟨rfl,ok⟩;have HB1:=aA (HKB.out _ _ HB0.out ok);obtain ⟨y0,y1⟩:=HB1.out.2;clear ok)
        go_loopw [29] (fun i wr=>∃ k:Nat,k≤r.length∧i= .int .i64 k∧(Below w.heap.size w wr∧BxG wr w.heap.size (.slice (some ⟨g,o,none⟩) nn 1))∧(r.take k).all cZ=true) (fun i _=>r.length - (intOf i).toNat)
        case atStart=>exact ⟨0,Nat.zero_le _,rfl,HB1.out,rfl⟩
        case round=>
         obtain ⟨k,hk,rfl,hbw,hall⟩:=hrel;have HBW:=aA hbw;clear y0 y1;obtain ⟨y0,y1⟩:=hbw.2
         by_cases hlt:k<r.length
         · exact absurd hlt (by omega)
         · obtain rfl:k=r.length:=by omega
           have HAL:Hid (r.all cZ=true):=by rw [List.take_length] at hall;exact hall
           have HBL:=aA hbw;have hki:¬ ((r.length:Int)<(r.length:Int)):=by omega
           clear hall hbw
           go_wp2_with fail
           go_loopw [40] (fun i wr=>∃ k:Nat,k≤nn∧i= .int .i64 k∧(Below w.heap.size w wr∧BxG wr w.heap.size (.slice (some ⟨g,o,none⟩) nn 1))∧((n0::r).take k).all (fun m=>cF nn m.ed)=true) (fun i _=>nn - (intOf i).toNat)
           case atStart=>exact ⟨0,Nat.zero_le _,rfl,HBL.out,rfl⟩
           case round=>
            obtain ⟨k,hk,rfl,hbw,hall⟩:=hrel;have HBW:=aA hbw
            by_cases hlt:k<nn
            · have hki:(k:Int)<(nn:Int):=by omega
              have hkG:k<(n0::r).length:=by rw [List.length_cons];have:=HNN.out;omega
              obtain ⟨vc,ve,⟨d0,d1,d2,d3,d4,d5⟩,⟨hpk,hek⟩,_⟩:=HX.out _ hbw.1 k hkG;have HE:Hid (∀ W,Below wr.heap.size wr W→Calls Tryz.prog 109 #[ve,.int .i64 (nn:Int)] W fun e w'=>e= .returned (.bool (cF nn (n0::r)[k].ed))∧Below W.heap.size W w'):=fun W hb=>kR (hek.below hb)
              have HT:Hid (((n0::r).take (k+1)).all (fun m=>cF nn m.ed)=cF nn (n0::r)[k].ed):=by
               unfold Hid;rw [List.take_succ_eq_append_getElem hkG,List.all_append,hall]
               simp
              have HT2:Hid (cF nn (n0::r)[k].ed=false→((n0::r).all fun m=>cF nn m.ed)=false):=fun hf=>by
               rw [List.all_eq_false];exact ⟨_,List.getElem_mem hkG,by rw [hf];simp⟩
              obtain ⟨ac,cc,rfl⟩:=hpk.sl;obtain ⟨ae,ce,rfl⟩:=hek.sl;clear hall hbw hpk hek;generalize (n0::r)[k]=m at*;have HA:Hid ((Below w.heap.size w (wr.alloc (.cells #[.string m.nm,.int .i64 m.a,.int .i64 m.b,.int .i64 m.c,.slice ac m.cx.length cc,.slice ae m.ed.length ce] 67))∧BxG (wr.alloc (.cells #[.string m.nm,.int .i64 m.a,.int .i64 m.b,.int .i64 m.c,.slice ac m.cx.length cc,.slice ae m.ed.length ce] 67)) w.heap.size (.slice (some ⟨g,o,none⟩) nn 1))∧BxNd (wr.alloc (.cells #[.string m.nm,.int .i64 m.a,.int .i64 m.b,.int .i64 m.c,.slice ac m.cx.length cc,.slice ae m.ed.length ce] 67)) wr.heap.size m (.slice ac m.cx.length cc) (.slice ae m.ed.length ce)):=⟨HKB.out _ _ HBW.out (aD _ _),BxNd.new rfl _ _ _⟩;cases hme:cF nn m.ed
              · have HR:Hid (dS (n0::r)=false):=by unfold Hid;rw [HM2.out,HT2.out hme];simp
                rw [hme] at HE
                go_wp2_with (go_at_call 109;refine (HE.out _ (aD _ _)).mono ?_;rintro e w5 ⟨rfl,ok⟩;have HB5:=aA (aB HA.out.1.1 ok);clear ok)
                go_ret;exact ⟨aC HR.out.symm,HB5.out⟩
              · rw [hme] at HE HT
                go_wp2_with (go_at_call 109;refine (HE.out _ (aD _ _)).mono ?_;rintro e w5 ⟨rfl,ok⟩;have HB5:=aA (HKB.out _ _ HA.out.1 ok);clear ok)
                exact ⟨⟨k+1,by omega,by go_num,HB5.out,HT.out⟩,by simp [intOf];omega⟩
            · obtain rfl:k=nn:=by omega
              have HR:Hid (dS (n0::r)=true):=by
               unfold Hid;have hz:k=(n0::r).length:=by rw [List.length_cons];have:=HNN.out;omega
               rw [HM2.out,HAL.out];rw [hz,List.take_length] at hall;rw [←hz] at hall;exact hall
              clear hall hbw
              go_wp2
              go_ret;exact ⟨aC HR.out.symm,HBW.out.1⟩
      · have hc1:(1:Int)≤(nn:Int):=by omega
        have hc2:(nn:Int)≤(cap:Int):=by omega
        have hrl:((nn:Int) - 1)=(r.length:Int):=by omega
        have hrn:nn - 1=r.length:=by omega
        clear hnn
        go_enter Tryz.func59,Tryz.ntmps59
        go_wp2_with (go_at_call 107;refine (HF.out _ HB0.out.1).mono ?_;rintro e w1 ⟨rfl,ok⟩;have HB1:=aA (HKB.out _ _ HB0.out ok);obtain ⟨y0,y1⟩:=HB1.out.2;clear ok)
        go_loopw [29] (fun i wr=>∃ k:Nat,k≤r.length∧i= .int .i64 k∧(Below w.heap.size w wr∧BxG wr w.heap.size (.slice (some ⟨g,o,none⟩) nn cap))∧(r.take k).all cZ=true) (fun i _=>r.length - (intOf i).toNat)
        case atStart=>exact ⟨0,Nat.zero_le _,rfl,HB1.out,rfl⟩
        case round=>
         obtain ⟨k,hk,rfl,hbw,hall⟩:=hrel;have HBW:=aA hbw;clear y0 y1;obtain ⟨y0,y1⟩:=hbw.2
         by_cases hlt:k<r.length
         · have hki:(k:Int)<(r.length:Int):=by omega
           obtain ⟨vc,ve,hnd⟩:=HX.out _ hbw.1 (k+1) (by simp;omega);rw [show o+(k+1)*6=o+6+k*6 by omega,List.getElem_cons_succ] at hnd;obtain ⟨⟨d0,d1,d2,d3,d4,d5⟩,⟨hpk,hek⟩,_⟩:=hnd;have HE:Hid (∀ W,Below wr.heap.size wr W→Calls Tryz.prog 108 #[.agg #[.string r[k].nm,.int .i64 r[k].a,.int .i64 r[k].b,.int .i64 r[k].c,vc,ve]] W fun e w'=>e= .returned (.bool (cZ r[k]))∧Below W.heap.size W w'):=fun W hb=>sS (hpk.below hb) (hek.below hb)
           have HT:Hid ((r.take (k+1)).all cZ=cZ r[k]):=by
            unfold Hid;rw [List.take_succ_eq_append_getElem hlt,List.all_append,hall]
            simp
           have HT2:Hid (cZ r[k]=false→r.all cZ=false):=fun hf=>by
            rw [List.all_eq_false];exact ⟨_,List.getElem_mem hlt,by rw [hf];simp⟩
           obtain ⟨ac,cc,rfl⟩:=hpk.sl;obtain ⟨ae,ce,rfl⟩:=hek.sl;clear hall hbw hpk hek;generalize r[k]=m at*;have HA:Hid ((Below w.heap.size w (wr.alloc (.cells #[.string m.nm,.int .i64 m.a,.int .i64 m.b,.int .i64 m.c,.slice ac m.cx.length cc,.slice ae m.ed.length ce] 67))∧BxG (wr.alloc (.cells #[.string m.nm,.int .i64 m.a,.int .i64 m.b,.int .i64 m.c,.slice ac m.cx.length cc,.slice ae m.ed.length ce] 67)) w.heap.size (.slice (some ⟨g,o,none⟩) nn cap))∧BxNd (wr.alloc (.cells #[.string m.nm,.int .i64 m.a,.int .i64 m.b,.int .i64 m.c,.slice ac m.cx.length cc,.slice ae m.ed.length ce] 67)) wr.heap.size m (.slice ac m.cx.length cc) (.slice ae m.ed.length ce)):=⟨HKB.out _ _ HBW.out (aD _ _),BxNd.new rfl _ _ _⟩;cases hme:cZ m
           · have HR:Hid (dS (n0::r)=false):=by unfold Hid;rw [HM2.out,HT2.out hme];rfl
             rw [hme] at HE
             go_wp2_with (go_at_call 108;refine (HE.out _ (aD _ _)).mono ?_;rintro e w5 ⟨rfl,ok⟩;have HB5:=aA (aB HA.out.1.1 ok);clear ok)
             go_ret;exact ⟨aC HR.out.symm,HB5.out⟩
           · rw [hme] at HE HT
             go_wp2_with (go_at_call 108;refine (HE.out _ (aD _ _)).mono ?_;rintro e w5 ⟨rfl,ok⟩;have HB5:=aA (HKB.out _ _ HA.out.1 ok);clear ok)
             exact ⟨⟨k+1,by omega,by go_num,HB5.out,HT.out⟩,by simp [intOf];omega⟩
         · obtain rfl:k=r.length:=by omega
           have HAL:Hid (r.all cZ=true):=by rw [List.take_length] at hall;exact hall
           have HBL:=aA hbw;have hki:¬ ((r.length:Int)<(r.length:Int)):=by omega
           clear hall hbw
           go_wp2_with fail
           go_loopw [40] (fun i wr=>∃ k:Nat,k≤nn∧i= .int .i64 k∧(Below w.heap.size w wr∧BxG wr w.heap.size (.slice (some ⟨g,o,none⟩) nn cap))∧((n0::r).take k).all (fun m=>cF nn m.ed)=true) (fun i _=>nn - (intOf i).toNat)
           case atStart=>exact ⟨0,Nat.zero_le _,rfl,HBL.out,rfl⟩
           case round=>
            obtain ⟨k,hk,rfl,hbw,hall⟩:=hrel;have HBW:=aA hbw
            by_cases hlt:k<nn
            · have hki:(k:Int)<(nn:Int):=by omega
              have hkG:k<(n0::r).length:=by rw [List.length_cons];have:=HNN.out;omega
              obtain ⟨vc,ve,⟨d0,d1,d2,d3,d4,d5⟩,⟨hpk,hek⟩,_⟩:=HX.out _ hbw.1 k hkG;have HE:Hid (∀ W,Below wr.heap.size wr W→Calls Tryz.prog 109 #[ve,.int .i64 (nn:Int)] W fun e w'=>e= .returned (.bool (cF nn (n0::r)[k].ed))∧Below W.heap.size W w'):=fun W hb=>kR (hek.below hb)
              have HT:Hid (((n0::r).take (k+1)).all (fun m=>cF nn m.ed)=cF nn (n0::r)[k].ed):=by
               unfold Hid;rw [List.take_succ_eq_append_getElem hkG,List.all_append,hall]
               simp
              have HT2:Hid (cF nn (n0::r)[k].ed=false→((n0::r).all fun m=>cF nn m.ed)=false):=fun hf=>by
               rw [List.all_eq_false];exact ⟨_,List.getElem_mem hkG,by rw [hf];simp⟩
              obtain ⟨ac,cc,rfl⟩:=hpk.sl;obtain ⟨ae,ce,rfl⟩:=hek.sl;clear hall hbw hpk hek;generalize (n0::r)[k]=m at*;have HA:Hid ((Below w.heap.size w (wr.alloc (.cells #[.string m.nm,.int .i64 m.a,.int .i64 m.b,.int .i64 m.c,.slice ac m.cx.length cc,.slice ae m.ed.length ce] 67))∧BxG (wr.alloc (.cells #[.string m.nm,.int .i64 m.a,.int .i64 m.b,.int .i64 m.c,.slice ac m.cx.length cc,.slice ae m.ed.length ce] 67)) w.heap.size (.slice (some ⟨g,o,none⟩) nn cap))∧BxNd (wr.alloc (.cells #[.string m.nm,.int .i64 m.a,.int .i64 m.b,.int .i64 m.c,.slice ac m.cx.length cc,.slice ae m.ed.length ce] 67)) wr.heap.size m (.slice ac m.cx.length cc) (.slice ae m.ed.length ce)):=⟨HKB.out _ _ HBW.out (aD _ _),BxNd.new rfl _ _ _⟩;cases hme:cF nn m.ed
              · have HR:Hid (dS (n0::r)=false):=by unfold Hid;rw [HM2.out,HT2.out hme];simp
                rw [hme] at HE
                go_wp2_with (go_at_call 109;refine (HE.out _ (aD _ _)).mono ?_;rintro e w5 ⟨rfl,ok⟩;have HB5:=aA (aB HA.out.1.1 ok);clear ok)
                go_ret;exact ⟨aC HR.out.symm,HB5.out⟩
              · rw [hme] at HE HT
                go_wp2_with (go_at_call 109;refine (HE.out _ (aD _ _)).mono ?_;rintro e w5 ⟨rfl,ok⟩;have HB5:=aA (HKB.out _ _ HA.out.1 ok);clear ok)
                exact ⟨⟨k+1,by omega,by go_num,HB5.out,HT.out⟩,by simp [intOf];omega⟩
            · obtain rfl:k=nn:=by omega
              have HR:Hid (dS (n0::r)=true):=by
               unfold Hid;have hz:k=(n0::r).length:=by rw [List.length_cons];have:=HNN.out;omega
               rw [HM2.out,HAL.out];rw [hz,List.take_length] at hall;rw [←hz] at hall;exact hall
              clear hall hbw
              go_wp2
              go_ret;exact ⟨aC HR.out.symm,HBW.out.1⟩
  · have hb128:decide ((128:Int)<(nn:Int))=true:=decide_eq_true (by omega)
    have HR:Hid (dS (n0::r)=false):=by unfold Hid;rw [HMG.out,decide_eq_false (by omega)];rfl
    clear hnn hni HMG
    go_enter Tryz.func59,Tryz.ntmps59
    go_wp2
    go_ret;exact ⟨aC HR.out.symm,HB0.out.1⟩
end Go.Proofs.YtpfemjlhklnfoaaGreatDoor.Lo
namespace Go.Proofs.YtpfemjlhklnfoaaGreatDoor
open Go.Shelf Go.RowKit Go.Maps Go.WideMaps
set_option maxRecDepth 100000
def nd0:Nd:=ndB ⟨#[]⟩ 0 0 0
def nd1:Nd:=ndB ⟨#[97]⟩ 0 0 0
theorem LH:Lo.dS [nd0]=true:=by decide
theorem LI:Lo.dS [nd0,nd1]=true:=by decide
theorem LJ:iO [nd0]=true:=by rfl
theorem LK:iO [nd0,nd1]=true:=by rfl
theorem LL:(gL [nd0]).length=1:=by decide
theorem LM:(gL [nd0,nd1]).length=1:=by decide
theorem LN:eG [] [nd0]=false:=by rfl
theorem LO:eG [] [nd0,nd1]=false:=by
 have h:fE nd0 nd1=false:=by
  unfold fE
  have e:dB (fD nd0) (fD nd1)=false:=by
   rw [Bool.eq_false_iff];intro e;have q:=congrArg Pn.nm (fW.1 e);unfold fD nd0 nd1 ndB at q
   simp at q
  rw [e];rfl
 unfold eG eG;simp [h,eG]
theorem IJ:aO ⟨[],[],[],[]⟩=true:=by
 unfold aO gK;rw [Bool.and_eq_true];refine ⟨?_,decide_eq_true ?_⟩
 · rw [tQ (by simp [eH])]
   rfl
 · decide
theorem sU:GrB [nd0]:=⟨⟨by decide,by decide⟩,fun n hn=>by rw [List.mem_singleton.1 hn];exact ⟨by decide,by decide⟩⟩
theorem IK:GrB [nd0,nd1]:=⟨⟨by decide,by decide⟩,fun n hn=>by
 rcases List.mem_cons.1 hn with rfl|hn
 · exact ⟨by decide,by decide⟩
 · rw [List.mem_singleton.1 hn];exact ⟨by decide,by decide⟩⟩
def KC (w:World) (v:Value) (W:World):Prop:=Below w.heap.size w W∧BxG W w.heap.size v∧(W.cell? ⟨w.heap.size+1,0,none⟩=some (.slice none 0 0)∧W.cell? ⟨w.heap.size+1,1,none⟩=some (.slice none 0 0)∧W.cell? ⟨w.heap.size+1,2,none⟩=some (.slice none 0 0)∧W.cell? ⟨w.heap.size+1,3,none⟩=some (.slice none 0 0))∧w.heap.size+1<W.heap.size
theorem IL (w:World) (v:Value):KeepP (KC w v):=fun _ _ ⟨h1,h2,⟨h3,h4,h5,h6⟩,h7⟩ hb=>
 ⟨aB h1 hb,bY _ _ _ _ h2 hb,⟨(hb.cell (p:=⟨w.heap.size+1,0,none⟩) h7).trans h3,(hb.cell (p:=⟨w.heap.size+1,1,none⟩) h7).trans h4,(hb.cell (p:=⟨w.heap.size+1,2,none⟩) h7).trans h5,(hb.cell (p:=⟨w.heap.size+1,3,none⟩) h7).trans h6⟩,Nat.lt_of_lt_of_le h7 hb.size⟩
theorem KC.new (w:World) (v:Value):KC w v ((w.alloc (.cells #[v] 55)).alloc (.cells #[.slice none 0 0,.slice none 0 0,.slice none 0 0,.slice none 0 0] 57)):=
 ⟨aR _ _ _,bY _ _ _ _ (BxG.new rfl _) (aD _ _),⟨by simp,by simp,by simp,by simp⟩,by simp⟩
set_option maxHeartbeats 1600000 in
theorem DP {ad:Option Addr} {n cap:Nat} {w:World}:
 Calls Tryz.prog 26 #[.agg #[.slice ad n cap],.pointer none,.agg #[.slice none 0 0,.slice none 0 0,.slice none 0 0,.slice none 0 0],.bool true] w fun e w'=>e= .returned (.int .i64 1)∧Below w.heap.size w w':=by
 have HK:=aA (KC.new w (.slice ad n cap))
 go_enter Tryz.func26,Tryz.ntmps26
 go_wp2
 go_ret;exact ⟨rfl,HK.out.1⟩
set_option maxHeartbeats 6400000 in
theorem yB {G:List Nd} {g o cap:Nat} {p:Addr} {w:World} (hG:NodesAt w (.slice (some ⟨g,o,none⟩) G.length cap) G) (he:Env w) (hf:FL w) (hm:Lo.dS G=true) (hlb:iO G=true) (htw:eG [] G=false) (hB:GrB G) (hin:InG G) (hr:(gL G).length<G.length):
 Calls Tryz.prog 26 #[.agg #[.slice (some ⟨g,o,none⟩) G.length cap],.pointer (some p),.agg #[.slice none 0 0,.slice none 0 0,.slice none 0 0,.slice none 0 0],.bool true] w fun e w'=>e= .returned (.int .i64 33)∧Below w.heap.size w w':=by
 have HKN:=aA (KC.new w (.slice (some ⟨g,o,none⟩) G.length cap));have hz:G.length≤9223372036854775807:=by have:=hB.1.1;omega
 have HMF:Hid (∀ w1,Below w.heap.size w w1→Calls Tryz.prog 58 #[.agg #[.slice none 0 0,.slice none 0 0,.slice none 0 0,.slice none 0 0]] w1 fun e w'=>e= .returned (.bool true)∧Below w1.heap.size w1 w'):=fun w1 hb=>by
  have q:=oP (P:=⟨[],[],[],[]⟩) (w:=w1) ⟨dL w1,dL w1,dL w1,dL w1⟩ (he.below hb) (hf.below hb);rw [IJ] at q;exact q
 have HLM:Hid (∀ w1,Below w.heap.size w w1→Calls Tryz.prog 59 #[.agg #[.slice (some ⟨g,o,none⟩) G.length cap]] w1 fun e w'=>e= .returned (.bool true)∧Below w1.heap.size w1 w'):=fun w1 hb=>by
  have q:=Lo.oV (hG.below hb);rw [hm] at q;exact q
 have HLB:Hid (∀ w1,Below w.heap.size w w1→Calls Tryz.prog 60 #[.agg #[.slice (some ⟨g,o,none⟩) G.length cap]] w1 fun e w'=>e= .returned (.bool true)∧Below w1.heap.size w1 w'):=fun w1 hb=>by
  have q:=gH (hG.below hb) hz hB.2 hin;rw [hlb] at q;exact q
 have HTW:Hid (∀ w1,Below w.heap.size w w1→Calls Tryz.prog 61 #[.slice (some ⟨g,o,none⟩) G.length cap] w1 fun e w'=>e= .returned (.bool false)∧Below w1.heap.size w1 w'):=fun w1 hb=>by
  have q:=lL (hG.below hb) hz hB.2;rw [htw] at q;exact q
 have HRC:Hid (∀ w1,Below w.heap.size w w1→Calls Tryz.prog 32 #[.agg #[.slice (some ⟨g,o,none⟩) G.length cap]] w1 fun e w'=>∃ ad c,e= .returned (.slice ad (gL G).length c)∧Below w1.heap.size w1 w'):=fun w1 hb=>by
  refine (lN (hG.below hb) hB).mono ?_;rintro e w' ⟨ad,c,rfl,_,h⟩;exact ⟨ad,c,rfl,h⟩
 have HKP:=aA (IL w (.slice (some ⟨g,o,none⟩) G.length cap));have HKW:Hid (∀ W,KC w (.slice (some ⟨g,o,none⟩) G.length cap) W→W.cell? ⟨w.heap.size,0,none⟩=some (.slice (some ⟨g,o,none⟩) G.length cap)):=fun W h=>h.2.1.1
 clear hG he hf hm hlb htw hB hin;generalize hrl:(gL G).length=rl at*;have hrl2:(rl:Int)<(G.length:Int):=by omega
 obtain ⟨_,⟨y0,_⟩,⟨z0,z1,z2,z3⟩,_⟩:=HKN.out
 go_enter Tryz.func26,Tryz.ntmps26
 go_wp2_with (go_at_call 58;refine (HMF.out _ HKN.out.1).mono ?_;rintro e w1 ⟨rfl,ok⟩;have HK1:=aA (HKP.out _ _ HKN.out ok);have k1:=HKW.out _ HK1.out;clear ok)
 go_region_held3 (fun w'=>w'.cell? ⟨w.heap.size,0,none⟩=some (.slice (some ⟨g,o,none⟩) G.length cap)) (go_keep)
  (first
    |(go_at_call 32;refine (HRC.out _ HK4.out.1).mono ?_;rintro e w5 ⟨ad,c,rfl,ok⟩;have HK5:=aA (HKP.out _ _ HK4.out ok);have k1:=HKW.out _ HK5.out;clear ok)
    |(go_at_call 61;refine (HTW.out _ HK3.out.1).mono ?_;rintro e w4 ⟨rfl,ok⟩;have HK4:=aA (HKP.out _ _ HK3.out ok);have k1:=HKW.out _ HK4.out;clear ok)
    |(go_at_call 60;refine (HLB.out _ HK2.out.1).mono ?_;rintro e w3 ⟨rfl,ok⟩;have HK3:=aA (HKP.out _ _ HK2.out ok);have k1:=HKW.out _ HK3.out;clear ok)
    |(go_at_call 59;refine (HLM.out _ HK1.out.1.drew).mono ?_;rintro e w2 ⟨rfl,ok⟩;have HK2:=aA (HKP.out _ _ (KeepP.drew HKP.out HK1.out) ok);have k1:=HKW.out _ HK2.out;clear ok))
 all_goals go_wp2
 all_goals go_ret
 all_goals exact ⟨rfl,HK5.out.1⟩
set_option maxHeartbeats 6400000 in
theorem DQ {g o cap:Nat} {p:Addr} {w:World} (hx:NdIn w g o nd0 (.slice none 0 0) (.slice none 0 0)) (hcap:1≤cap) (he:Env w) (hf:FL w):
 Calls Tryz.prog 26 #[.agg #[.slice (some ⟨g,o,none⟩) 1 cap],.pointer (some p),.agg #[.slice none 0 0,.slice none 0 0,.slice none 0 0,.slice none 0 0],.bool true] w fun e w'=>e= .returned (.int .i64 0)∧Below w.heap.size w w':=by
 have HKN:=aA (KC.new w (.slice (some ⟨g,o,none⟩) 1 cap))
 have hG:NodesAt w (.slice (some ⟨g,o,none⟩) 1 cap) [nd0]:=⟨_,cap,rfl,hcap,Or.inr ⟨g,o,rfl,hx.2.2,fun i hi=>by
  have:i=0:=by simpa using hi
  subst this;rw [Nat.zero_mul,Nat.add_zero];exact ⟨_,_,hx⟩⟩⟩
 have hin:InG [nd0]:=fun n hn e he=>by rw [List.mem_singleton.1 hn] at he;cases he
 have HMF:Hid (∀ w1,Below w.heap.size w w1→Calls Tryz.prog 58 #[.agg #[.slice none 0 0,.slice none 0 0,.slice none 0 0,.slice none 0 0]] w1 fun e w'=>e= .returned (.bool true)∧Below w1.heap.size w1 w'):=fun w1 hb=>by
  have q:=oP (P:=⟨[],[],[],[]⟩) (w:=w1) ⟨dL w1,dL w1,dL w1,dL w1⟩ (he.below hb) (hf.below hb);rw [IJ] at q;exact q
 have HLM:Hid (∀ w1,Below w.heap.size w w1→Calls Tryz.prog 59 #[.agg #[.slice (some ⟨g,o,none⟩) 1 cap]] w1 fun e w'=>e= .returned (.bool true)∧Below w1.heap.size w1 w'):=fun w1 hb=>by
  have q:=Lo.oV (hG.below hb);rw [LH] at q;exact q
 have HLB:Hid (∀ w1,Below w.heap.size w w1→Calls Tryz.prog 60 #[.agg #[.slice (some ⟨g,o,none⟩) 1 cap]] w1 fun e w'=>e= .returned (.bool true)∧Below w1.heap.size w1 w'):=fun w1 hb=>by
  have q:=gH (hG.below hb) (by decide) sU.2 hin;rw [LJ] at q;exact q
 have HTW:Hid (∀ w1,Below w.heap.size w w1→Calls Tryz.prog 61 #[.slice (some ⟨g,o,none⟩) 1 cap] w1 fun e w'=>e= .returned (.bool false)∧Below w1.heap.size w1 w'):=fun w1 hb=>by
  have q:=lL (hG.below hb) (by decide) sU.2;rw [LN] at q;exact q
 have HRC:Hid (∀ w1,Below w.heap.size w w1→Calls Tryz.prog 32 #[.agg #[.slice (some ⟨g,o,none⟩) 1 cap]] w1 fun e w'=>∃ ad c,e= .returned (.slice ad 1 c)∧Below w1.heap.size w1 w'):=fun w1 hb=>by
  refine (lN (hG.below hb) sU).mono ?_;rintro e w' ⟨ad,c,rfl,_,h⟩;exact ⟨ad,c,by rw [LL],h⟩
 have HKP:=aA (IL w (.slice (some ⟨g,o,none⟩) 1 cap));have HKW:Hid (∀ W,KC w (.slice (some ⟨g,o,none⟩) 1 cap) W→W.cell? ⟨w.heap.size,0,none⟩=some (.slice (some ⟨g,o,none⟩) 1 cap)):=fun W h=>h.2.1.1
 have HFT:Hid (∀ w1,Below w.heap.size w w1→Calls Tryz.prog 62 #[.agg #[.slice (some ⟨g,o,none⟩) 1 cap,.pointer (some p),.slice none 0 0,.slice none 0 0,.slice none 0 0,.slice none 0 0,.bool true],.int .i64 0] w1 fun e w'=>e= .returned (.bool true)∧Below w1.heap.size w1 w'):=fun w1 hb=>DN (hx.below hb) (by decide)
 clear hG he hf hin hx;obtain ⟨_,⟨y0,_⟩,⟨z0,z1,z2,z3⟩,_⟩:=HKN.out
 go_enter Tryz.func26,Tryz.ntmps26
 go_wp2_with (go_at_call 58;refine (HMF.out _ HKN.out.1).mono ?_;rintro e w1 ⟨rfl,ok⟩;have HK1:=aA (HKP.out _ _ HKN.out ok);have k1:=HKW.out _ HK1.out;clear ok)
 go_region_held3 (fun w'=>w'.cell? ⟨w.heap.size,0,none⟩=some (.slice (some ⟨g,o,none⟩) 1 cap)) (go_keep)
  (first
    |(go_at_call 32;refine (HRC.out _ HK4.out.1).mono ?_;rintro e w5 ⟨ad,c,rfl,ok⟩;have HK5:=aA (HKP.out _ _ HK4.out ok);have k1:=HKW.out _ HK5.out;clear ok)
    |(go_at_call 61;refine (HTW.out _ HK3.out.1).mono ?_;rintro e w4 ⟨rfl,ok⟩;have HK4:=aA (HKP.out _ _ HK3.out ok);have k1:=HKW.out _ HK4.out;clear ok)
    |(go_at_call 60;refine (HLB.out _ HK2.out.1).mono ?_;rintro e w3 ⟨rfl,ok⟩;have HK3:=aA (HKP.out _ _ HK2.out ok);have k1:=HKW.out _ HK3.out;clear ok)
    |(go_at_call 59;refine (HLM.out _ HK1.out.1.drew).mono ?_;rintro e w2 ⟨rfl,ok⟩;have HK2:=aA (HKP.out _ _ (KeepP.drew HKP.out HK1.out) ok);have k1:=HKW.out _ HK2.out;clear ok))
 obtain ⟨_,_,⟨z0,z1,z2,z3⟩,_⟩:=HK5.out;have HS0:Hid (Below w.heap.size w (w5.alloc (.cells #[.slice (some ⟨g,o,none⟩) 1 cap,.pointer (some p),.slice none 0 0,.slice none 0 0,.slice none 0 0,.slice none 0 0,.bool true] 109))∧BxS (w5.alloc (.cells #[.slice (some ⟨g,o,none⟩) 1 cap,.pointer (some p),.slice none 0 0,.slice none 0 0,.slice none 0 0,.slice none 0 0,.bool true] 109)) w5.heap.size (.slice (some ⟨g,o,none⟩) 1 cap) (some p)∧BxG (w5.alloc (.cells #[.slice (some ⟨g,o,none⟩) 1 cap,.pointer (some p),.slice none 0 0,.slice none 0 0,.slice none 0 0,.slice none 0 0,.bool true] 109)) w.heap.size (.slice (some ⟨g,o,none⟩) 1 cap)):=⟨aB HK5.out.1 (aD _ _),BxS.new rfl _ _,bY _ _ _ _ HK5.out.2.1 (aD _ _)⟩;obtain ⟨_,_,⟨g0,_⟩⟩:=HS0.out
 go_wp2_with fail
 clear g0 z0 z1 z2 z3 k1 y0
 go_loopw [49] (fun vi wr=>(vi= .int .i64 0∨vi= .int .i64 1)∧Below w.heap.size w wr∧BxS wr w5.heap.size (.slice (some ⟨g,o,none⟩) 1 cap) (some p)) (fun vi _=>1 - (intOf vi).toNat)
 case atStart=>exact ⟨Or.inl rfl,HS0.out.1,HS0.out.2.1⟩
 case round=>
  clear HS0;obtain ⟨rfl|rfl,hb,hs⟩:=hrel
  · have HB:=aA hb
    have HS:=aA hs;obtain ⟨⟨k0,k1,k2,k3,k4,k5,k6⟩,k7⟩:=hs;clear hb
    go_wp2_with (go_at_call 62;refine (HFT.out _ HB.out).mono ?_;rintro e w6 ⟨rfl,ok⟩;have HB6:Hid (Below w.heap.size w w6∧BxS w6 w5.heap.size (.slice (some ⟨g,o,none⟩) 1 cap) (some p)):=⟨aB HB.out ok,eN _ _ _ _ _ HS.out ok⟩;clear ok)
    exact ⟨⟨Or.inr rfl,HB6.out⟩,by decide⟩
  · have HB:=aA hb
    clear hb hs
    go_wp2
    go_ret;exact ⟨rfl,HB.out⟩
end Go.Proofs.YtpfemjlhklnfoaaGreatDoor
