/- Lo1: their declarations that are needed, laid in one text, remarks and blanks left out. -/
import Derived.Test.YtmnhnofnlcbliaaGreatDoorMg17
namespace Go.Proofs.YtmnhnofnlcbliaaGreatDoor.Lo
open Go.RowKit
set_option maxRecDepth 100000
open Sc (KeepP aB aG)
open Sc (KeepP aB aG Bs ba LL OwnW lD)
def ltS (s t:ByteArray):Bool:=Op.bytesLess s.toList t.toList
def yK (q s:ByteArray):Bool:=Sc.aK s.data.toList&&ltS q s
def wK:ByteArray→List Pn→Bool
 |_,[]=>true
 |q,p::r=>yK q p.nm&&bB p.a p.b p.c&&wK p.nm r
def tN (n:Int):ByteArray→List Eg→Bool
 |_,[]=>true
 |q,e::r=>yK q e.lb&&decide (1≤e.to)&&decide (e.to<n)&&tN n e.lb r
def kW (L:List Pn):Bool:=decide (L.length≤128)&&wK ⟨#[]⟩ L
def dE (n:Int) (L:List Eg):Bool:=decide (L.length≤128)&&tN n ⟨#[]⟩ L
def jI (n:Nd):Bool:=decide (n.nm.size=0)&&decide (n.a=0∧n.b=0∧n.c=0)&&decide (n.cx.length=0)
def eG (n:Nd):Bool:=Sc.aK n.nm.data.toList&&bB n.a n.b n.c&&kW n.cx
def eO:List Nd→Bool
 |[]=>false
 |n::r=>decide (r.length+1≤128)&&jI n&&r.all eG&&(n::r).all fun m=>dE (r.length+1) m.ed
theorem ID (q s:ByteArray) (w:World):Calls Tryz.prog 161 #[.string q,.string s] w fun e w'=>e= .returned (.bool (yK q s))∧w'=w:=by
 have HN:Hid (Calls Tryz.prog 53 #[.string s] w fun e w'=>e= .returned (.bool (Sc.aK s.data.toList))∧w'=w):=Sc.eK s w;have HF:Hid (yK q s=(Sc.aK s.data.toList&&Op.bytesLess q.toList s.toList)):=rfl;cases hn:Sc.aK s.data.toList
 · rw [hn] at HN HF
   go_enter Tryz.func161,Tryz.ntmps161
   go_wp2_with (go_at_call 53;refine HN.out.mono ?_;rintro e w1 ⟨rfl,rfl⟩)
   go_ret;exact ⟨aD HF.out.symm,rfl⟩
 · rw [hn] at HN HF
   go_enter Tryz.func161,Tryz.ntmps161
   go_wp2_with (go_at_call 53;refine HN.out.mono ?_;rintro e w1 ⟨rfl,rfl⟩)
   go_ret;exact ⟨aD (by rw [HF.out];simp),rfl⟩
def BxPn (w:World) (N:Nat) (p:Pn):Prop:=(w.cell? ⟨N,0,none⟩=some (.string p.nm)∧w.cell? ⟨N,1,none⟩=some (.int .i64 p.a)∧w.cell? ⟨N,2,none⟩=some (.int .i64 p.b)∧w.cell? ⟨N,3,none⟩=some (.int .i64 p.c))∧N<w.heap.size
theorem qL (N:Nat) (p:Pn):KeepP fun w1=>BxPn w1 N p:=fun w w' h hb=>by
 obtain ⟨⟨h0,h1,h2,h3⟩,hg⟩:=h;have q:∀ i,w'.cell? ⟨N,i,none⟩=w.cell? ⟨N,i,none⟩:=fun i=>hb.cell (p:=⟨N,i,none⟩) hg
 exact ⟨⟨by rw [q];exact h0,by rw [q];exact h1,by rw [q];exact h2,by rw [q];exact h3⟩,Nat.lt_of_lt_of_le hg hb.size⟩
theorem BxPn.new {w:World} {N:Nat} (hN:w.heap.size=N) (p:Pn):BxPn (w.alloc (.cells #[.string p.nm,.int .i64 p.a,.int .i64 p.b,.int .i64 p.c] 129)) N p:=by
 subst hN;refine ⟨⟨?_,?_,?_,?_⟩,?_⟩<;>simp
def BxEg (w:World) (N:Nat) (p:Eg):Prop:=(w.cell? ⟨N,0,none⟩=some (.string p.lb)∧w.cell? ⟨N,1,none⟩=some (.int .i64 p.to))∧N<w.heap.size
theorem wL (N:Nat) (p:Eg):KeepP fun w1=>BxEg w1 N p:=fun w w' h hb=>by
 obtain ⟨⟨h0,h1⟩,hg⟩:=h;have q:∀ i,w'.cell? ⟨N,i,none⟩=w.cell? ⟨N,i,none⟩:=fun i=>hb.cell (p:=⟨N,i,none⟩) hg
 exact ⟨⟨by rw [q];exact h0,by rw [q];exact h1⟩,Nat.lt_of_lt_of_le hg hb.size⟩
theorem BxEg.new {w:World} {N:Nat} (hN:w.heap.size=N) (p:Eg):BxEg (w.alloc (.cells #[.string p.lb,.int .i64 p.to] 62)) N p:=by
 subst hN;refine ⟨⟨?_,?_⟩,?_⟩<;>simp
theorem MR {L:List Pn} (h:¬ L.length≤128):kW L=false:=by unfold kW;rw [decide_eq_false h];rfl
theorem MT {n:Int} {L:List Eg} (h:¬ L.length≤128):dE n L=false:=by unfold dE;rw [decide_eq_false h];rfl
set_option maxHeartbeats 3200000 in
theorem wM {L:List Pn} {v:Value} {w:World} (hv:PinsAt w v L):
 Calls Tryz.prog 160 #[v] w fun e w'=>e= .returned (.bool (kW L))∧Below w.heap.size w w':=by
 have HD:Hid (∀ w',Below w.heap.size w w'→PinsAt w' v L):=fun w' hb=>hv.below hb
 obtain ⟨ad,cap,rfl⟩:=hv.sl;clear hv
 by_cases hl:L.length≤128
 · have HM:Hid (kW L=wK ⟨#[]⟩ L):=by unfold Hid kW;rw [decide_eq_true hl];rfl
   have hli:decide ((128:Int)<(L.length:Int))=false:=decide_eq_false (by omega)
   go_enter Tryz.func160,Tryz.ntmps160
   go_wp2
   go_loopw [3,11] (fun va vi wr=>∃ (k:Nat) (q:ByteArray),k≤L.length∧vi= .int .i64 k∧va= .string q∧Below w.heap.size w wr∧wK ⟨#[]⟩ L=wK q (L.drop k)) (fun _ i _=>L.length - (intOf i).toNat)
   case atStart=>exact ⟨0,⟨#[]⟩,Nat.zero_le _,rfl,rfl,Below.refl _ _,by rw [List.drop_zero]⟩
   case round=>
    obtain ⟨k,q,hk,rfl,rfl,hb,hst⟩:=hrel;have HB:=aB hb
    by_cases hlt:k<L.length
    · obtain ⟨ad',cap',e,_,hcs⟩:=HD.out wr hb
      cases e
      obtain ⟨g,o,rfl,hg,hcs⟩:∃ g o,ad=some ⟨g,o,none⟩∧g<wr.heap.size∧∀ i (h:i<L.length),PnIn wr g (o+i*4) L[i]:=by
       rcases hcs with h|h
       · rw [h] at hlt;simp at hlt
       · exact h
      obtain ⟨⟨c0,c1,c2,c3⟩,_⟩:=hcs k hlt
      have HST:Hid (wK ⟨#[]⟩ L=(yK q L[k].nm&&bB L[k].a L[k].b L[k].c&&wK L[k].nm (L.drop (k+1)))):=by
       unfold Hid;rw [hst,List.drop_eq_getElem_cons hlt];rfl
      clear hcs hb hst;generalize L[k]=p at*;have HA:Hid (Below w.heap.size w (wr.alloc (.cells #[.string p.nm,.int .i64 p.a,.int .i64 p.b,.int .i64 p.c] 129))∧BxPn (wr.alloc (.cells #[.string p.nm,.int .i64 p.a,.int .i64 p.b,.int .i64 p.c] 129)) wr.heap.size p):=⟨aA HB.out (aC _ _),BxPn.new rfl _⟩;have HF:=aB (ID q p.nm);have HV:=aB (jP p.a p.b p.c);generalize yK q p.nm=bf at*;generalize bB p.a p.b p.c=bv at*;cases bf
      · have HR:Hid (kW L=false):=by unfold Hid;rw [HM.out,HST.out];rfl
        go_wp2_with (go_at_call 161;refine (HF.out _).mono ?_;rintro e w1 ⟨rfl,rfl⟩)
        go_ret;exact ⟨aD HR.out.symm,HA.out.1⟩
      · cases bv
        · have HR:Hid (kW L=false):=by unfold Hid;rw [HM.out,HST.out];rfl
          go_wp2_with (first
           |(go_at_call 161;refine (HF.out _).mono ?_;rintro e w1 ⟨rfl,rfl⟩)
           |(go_at_call 159;refine (HV.out _).mono ?_;rintro e w2 ⟨rfl,ok⟩;have HA2:=aB (aA HA.out.1 ok);clear ok))
          go_ret;exact ⟨aD HR.out.symm,HA2.out⟩
        · have HR:Hid (wK ⟨#[]⟩ L=wK p.nm (L.drop (k+1))):=by unfold Hid;rw [HST.out];rfl
          go_wp2_with (first
           |(go_at_call 161;refine (HF.out _).mono ?_;rintro e w1 ⟨rfl,rfl⟩)
           |(go_at_call 159;refine (HV.out _).mono ?_;rintro e w2 ⟨rfl,ok⟩;have HA2:Hid (Below w.heap.size w w2∧BxPn w2 wr.heap.size p):=⟨aA HA.out.1 ok,qL _ _ _ _ HA.out.2 ok⟩;obtain ⟨⟨y0,y1,y2,y3⟩,y4⟩:=HA2.out.2;clear ok))
          exact ⟨⟨k+1,p.nm,by omega,by go_num,rfl,HA2.out.1,HR.out⟩,by simp [intOf];omega⟩
    · obtain rfl:k=L.length:=by omega
      rw [List.drop_length] at hst;have HR:Hid (kW L=true):=by unfold Hid;rw [HM.out,hst];rfl
      clear hst hb
      go_wp2
      go_ret;exact ⟨aD HR.out.symm,HB.out⟩
 · have HR:=aB (MR hl)
   have hli:decide ((128:Int)<(L.length:Int))=true:=decide_eq_true (by omega)
   go_enter Tryz.func160,Tryz.ntmps160
   go_wp2
   go_ret;exact ⟨aD HR.out.symm,Below.refl _ _⟩
set_option maxHeartbeats 3200000 in
theorem qM {L:List Eg} {n:Int} {v:Value} {w:World} (hv:EdgesAt w v L):
 Calls Tryz.prog 114 #[v,.int .i64 n] w fun e w'=>e= .returned (.bool (dE n L))∧Below w.heap.size w w':=by
 have HD:Hid (∀ w',Below w.heap.size w w'→EdgesAt w' v L):=fun w' hb=>hv.below hb
 obtain ⟨ad,cap,rfl⟩:=hv.sl;clear hv
 by_cases hl:L.length≤128
 · have HM:Hid (dE n L=tN n ⟨#[]⟩ L):=by unfold Hid dE;rw [decide_eq_true hl];rfl
   have hli:decide ((128:Int)<(L.length:Int))=false:=decide_eq_false (by omega)
   go_enter Tryz.func114,Tryz.ntmps114
   go_wp2
   go_loopw [5,13] (fun va vi wr=>∃ (k:Nat) (q:ByteArray),k≤L.length∧vi= .int .i64 k∧va= .string q∧Below w.heap.size w wr∧tN n ⟨#[]⟩ L=tN n q (L.drop k)) (fun _ i _=>L.length - (intOf i).toNat)
   case atStart=>exact ⟨0,⟨#[]⟩,Nat.zero_le _,rfl,rfl,Below.refl _ _,by rw [List.drop_zero]⟩
   case round=>
    obtain ⟨k,q,hk,rfl,rfl,hb,hst⟩:=hrel;have HB:=aB hb
    by_cases hlt:k<L.length
    · obtain ⟨ad',cap',e,_,hcs⟩:=HD.out wr hb
      cases e
      obtain ⟨g,o,rfl,hg,hcs⟩:∃ g o,ad=some ⟨g,o,none⟩∧g<wr.heap.size∧∀ i (h:i<L.length),EgIn wr g (o+i*2) L[i]:=by
       rcases hcs with h|h
       · rw [h] at hlt;simp at hlt
       · exact h
      obtain ⟨⟨c0,c1⟩,_⟩:=hcs k hlt
      have HST:Hid (tN n ⟨#[]⟩ L=(yK q L[k].lb&&decide (1≤L[k].to)&&decide (L[k].to<n)&&tN n L[k].lb (L.drop (k+1)))):=by
       unfold Hid;rw [hst,List.drop_eq_getElem_cons hlt];rfl
      clear hcs hb hst;generalize L[k]=p at*;have HA:Hid (Below w.heap.size w (wr.alloc (.cells #[.string p.lb,.int .i64 p.to] 62))∧BxEg (wr.alloc (.cells #[.string p.lb,.int .i64 p.to] 62)) wr.heap.size p):=⟨aA HB.out (aC _ _),BxEg.new rfl _⟩;have HF:=aB (ID q p.lb);generalize yK q p.lb=bf at*;cases bf
      · have HR:Hid (dE n L=false):=by unfold Hid;rw [HM.out,HST.out];rfl
        go_wp2_with (go_at_call 161;refine (HF.out _).mono ?_;rintro e w1 ⟨rfl,rfl⟩)
        go_ret;exact ⟨aD HR.out.symm,HA.out.1⟩
      · by_cases h1:1≤p.to
        · have h1i:decide (p.to<1)=false:=decide_eq_false (by omega)
          by_cases h2:p.to<n
          · have h2i:decide (n≤p.to)=false:=decide_eq_false (by omega)
            have HR:Hid (tN n ⟨#[]⟩ L=tN n p.lb (L.drop (k+1))):=by unfold Hid;rw [HST.out,decide_eq_true h1,decide_eq_true h2];rfl
            go_wp2_with (go_at_call 161;refine (HF.out _).mono ?_;rintro e w1 ⟨rfl,rfl⟩)
            exact ⟨⟨k+1,p.lb,by omega,by go_num,rfl,HA.out.1,HR.out⟩,by simp [intOf];omega⟩
          · have h2i:decide (n≤p.to)=true:=decide_eq_true (by omega)
            have HR:Hid (dE n L=false):=by unfold Hid;rw [HM.out,HST.out,decide_eq_false h2];simp
            go_wp2_with (go_at_call 161;refine (HF.out _).mono ?_;rintro e w1 ⟨rfl,rfl⟩)
            go_ret;exact ⟨aD HR.out.symm,HA.out.1⟩
        · have h1i:decide (p.to<1)=true:=decide_eq_true (by omega)
          have HR:Hid (dE n L=false):=by unfold Hid;rw [HM.out,HST.out,decide_eq_false h1];simp
          go_wp2_with (go_at_call 161;refine (HF.out _).mono ?_;rintro e w1 ⟨rfl,rfl⟩)
          go_ret;exact ⟨aD HR.out.symm,HA.out.1⟩
    · obtain rfl:k=L.length:=by omega
      rw [List.drop_length] at hst;have HR:Hid (dE n L=true):=by unfold Hid;rw [HM.out,hst];rfl
      clear hst hb
      go_wp2
      go_ret;exact ⟨aD HR.out.symm,HB.out⟩
 · have HR:=aB (MT (n:=n) hl)
   have hli:decide ((128:Int)<(L.length:Int))=true:=decide_eq_true (by omega)
   go_enter Tryz.func114,Tryz.ntmps114
   go_wp2
   go_ret;exact ⟨aD HR.out.symm,Below.refl _ _⟩
def BxNd (w:World) (N:Nat) (n:Nd) (vc ve:Value):Prop:=(w.cell? ⟨N,0,none⟩=some (.string n.nm)∧w.cell? ⟨N,1,none⟩=some (.int .i64 n.a)∧w.cell? ⟨N,2,none⟩=some (.int .i64 n.b)∧w.cell? ⟨N,3,none⟩=some (.int .i64 n.c)∧w.cell? ⟨N,4,none⟩=some vc∧w.cell? ⟨N,5,none⟩=some ve)∧N<w.heap.size
theorem wN (N:Nat) (n:Nd) (vc ve:Value):KeepP fun w1=>BxNd w1 N n vc ve:=fun w w' h hb=>by
 obtain ⟨⟨h0,h1,h2,h3,h4,h5⟩,hg⟩:=h;have q:∀ i,w'.cell? ⟨N,i,none⟩=w.cell? ⟨N,i,none⟩:=fun i=>hb.cell (p:=⟨N,i,none⟩) hg
 exact ⟨⟨by rw [q];exact h0,by rw [q];exact h1,by rw [q];exact h2,by rw [q];exact h3,by rw [q];exact h4,by rw [q];exact h5⟩,Nat.lt_of_lt_of_le hg hb.size⟩
theorem BxNd.new {w:World} {N:Nat} (hN:w.heap.size=N) (n:Nd) (vc ve:Value):BxNd (w.alloc (.cells #[.string n.nm,.int .i64 n.a,.int .i64 n.b,.int .i64 n.c,vc,ve] 60)) N n vc ve:=by
 subst hN;refine ⟨⟨?_,?_,?_,?_,?_,?_⟩,?_⟩<;>simp
set_option maxHeartbeats 3200000 in
theorem CR {n:Nd} {vc ve:Value} {w:World} (hc:PinsAt w vc n.cx) (he:EdgesAt w ve n.ed):
 Calls Tryz.prog 113 #[.agg #[.string n.nm,.int .i64 n.a,.int .i64 n.b,.int .i64 n.c,vc,ve]] w fun e w'=>e= .returned (.bool (eG n))∧Below w.heap.size w w':=by
 have HN:=aB (Sc.eK n.nm);have HV:=aB (jP n.a n.b n.c);have HC:Hid (∀ w1,Below w.heap.size w w1→Calls Tryz.prog 160 #[vc] w1 fun e w'=>e= .returned (.bool (kW n.cx))∧Below w1.heap.size w1 w'):=fun w1 hb=>wM (hc.below hb)
 have HL:Hid (eG n=(Sc.aK n.nm.data.toList&&bB n.a n.b n.c&&kW n.cx)):=rfl;obtain ⟨ac,cc,rfl⟩:=hc.sl;obtain ⟨ae,ce,rfl⟩:=he.sl;clear hc he;have HA:Hid (Below w.heap.size w (w.alloc (.cells #[.string n.nm,.int .i64 n.a,.int .i64 n.b,.int .i64 n.c,.slice ac n.cx.length cc,.slice ae n.ed.length ce] 60))∧BxNd (w.alloc (.cells #[.string n.nm,.int .i64 n.a,.int .i64 n.b,.int .i64 n.c,.slice ac n.cx.length cc,.slice ae n.ed.length ce] 60)) w.heap.size n (.slice ac n.cx.length cc) (.slice ae n.ed.length ce)):=⟨aC _ _,BxNd.new rfl _ _ _⟩;generalize eG n=lb at*;generalize Sc.aK n.nm.data.toList=b1 at*;generalize bB n.a n.b n.c=b2 at*;generalize kW n.cx=b3 at*;cases b1
 · have HR:Hid (lb=false):=by unfold Hid;rw [HL.out];rfl
   go_enter Tryz.func113,Tryz.ntmps113
   go_wp2_with (go_at_call 53;refine (HN.out _).mono ?_;rintro e w1 ⟨rfl,rfl⟩)
   go_ret;exact ⟨aD HR.out.symm,HA.out.1⟩
 · cases b2
   · have HR:Hid (lb=false):=by unfold Hid;rw [HL.out];rfl
     go_enter Tryz.func113,Tryz.ntmps113
     go_wp2_with (first
      |(go_at_call 53;refine (HN.out _).mono ?_;rintro e w1 ⟨rfl,rfl⟩)
      |(go_at_call 159;refine (HV.out _).mono ?_;rintro e w2 ⟨rfl,ok⟩;have HA2:=aB (aA HA.out.1 ok);clear ok))
     go_ret;exact ⟨aD HR.out.symm,HA2.out⟩
   · have HR:Hid (lb=b3):=by unfold Hid;rw [HL.out];rfl
     go_enter Tryz.func113,Tryz.ntmps113
     go_wp2_with (first
      |(go_at_call 53;refine (HN.out _).mono ?_;rintro e w1 ⟨rfl,rfl⟩)
      |(go_at_call 159;refine (HV.out _).mono ?_;rintro e w2 ⟨rfl,ok⟩;have HA2:Hid (Below w.heap.size w w2∧BxNd w2 w.heap.size n (.slice ac n.cx.length cc) (.slice ae n.ed.length ce)):=⟨aA HA.out.1 ok,wN _ _ _ _ _ _ HA.out.2 ok⟩;obtain ⟨⟨y0,y1,y2,y3,y4,y5⟩,y6⟩:=HA2.out.2;clear ok)
      |(go_at_call 160;refine (HC.out _ HA2.out.1).mono ?_;rintro e w3 ⟨rfl,ok⟩;have HA3:=aB (aA HA2.out.1 ok);clear ok))
     go_ret;exact ⟨aD HR.out.symm,HA3.out⟩
theorem Gp (p q r p' q' r':Int) (w:World):(binOp .eql 52 (.agg #[.int .i64 p,.int .i64 q,.int .i64 r]) (.agg #[.int .i64 p',.int .i64 q',.int .i64 r'])).run Tryz.prog w= .ok (.bool (decide (p=p')&&decide (q=q')&&decide (r=r'))) w:=by
 have u3:=Tryz.underlying3;have a3:=Tryz.isAgg3;have z3:=Tryz.sizeOf3;rw [run_eql_struct,show (10000:Nat)=9999+1 from rfl,run_equalIn_agg w 9999 52 _ _ (by kernel_rfl) (by kernel_rfl)];simp only [Program.fieldsOf,Tryz.underlying52]
 by_cases h1:p=p'
 · by_cases h2:q=q'
   · by_cases h3:r=r'
     · subst h1 h2 h3;go_simp
     · subst h1 h2;simp only [h3,decide_false,Bool.and_false];go_simp
   · subst h1;simp only [h2,decide_false,Bool.and_false,Bool.false_and];go_simp
 · simp only [h1,decide_false,Bool.false_and];go_simp
set_option maxHeartbeats 3200000 in
theorem CS {n:Nd} {vc ve:Value} {w:World} (hc:PinsAt w vc n.cx) (he:EdgesAt w ve n.ed):
 Calls Tryz.prog 112 #[.agg #[.string n.nm,.int .i64 n.a,.int .i64 n.b,.int .i64 n.c,vc,ve]] w fun e w'=>e= .returned (.bool (jI n))∧Below w.heap.size w w':=by
 obtain ⟨ac,cc,rfl⟩:=hc.sl;obtain ⟨ae,ce,rfl⟩:=he.sl;clear hc he
 have HL:Hid (jI n=(n.nm.toList.isEmpty&&(decide (n.a=0)&&decide (n.b=0)&&decide (n.c=0))&&decide (n.cx.length=0))):=by
  unfold Hid jI
  have e:decide (n.nm.size=0)=n.nm.toList.isEmpty:=by
   rw [ByteArray.toList_eq,Bool.eq_iff_iff,decide_eq_true_eq,List.isEmpty_iff_length_eq_zero];rfl
  rw [e];simp only [Bool.decide_and,Bool.and_assoc]
 have hv:=Gp n.a n.b n.c 0 0 0;have hgd:=rA;have HA:Hid (Below w.heap.size w (w.alloc (.cells #[.string n.nm,.int .i64 n.a,.int .i64 n.b,.int .i64 n.c,.slice ac n.cx.length cc,.slice ae n.ed.length ce] 60))):=aC _ _;generalize jI n=fb at*;generalize (decide (n.a=0)&&decide (n.b=0)&&decide (n.c=0))=xv at*;cases hx:n.nm.toList.isEmpty
 · have hx2:(n.nm.toList==[])=false:=by rw [←hx];cases n.nm.toList<;>rfl
   have HR:Hid (fb=false):=by unfold Hid;rw [HL.out,hx];rfl
   go_enter Tryz.func112,Tryz.ntmps112
   go_wp2
   go_ret;exact ⟨aD HR.out.symm,HA.out⟩
 · have hx2:(n.nm.toList==[])=true:=by rw [←hx];cases n.nm.toList<;>rfl
   cases xv
   · have HR:Hid (fb=false):=by unfold Hid;rw [HL.out,hx];rfl
     go_enter Tryz.func112,Tryz.ntmps112
     go_wp2
     go_ret;exact ⟨aD HR.out.symm,HA.out⟩
   · by_cases hl:n.cx.length=0
     · have hl2:((n.cx.length:Int)==0)=true:=by rw [hl];rfl
       have HR:Hid (fb=true):=by unfold Hid;rw [HL.out,hx,decide_eq_true hl];rfl
       clear hl
       go_enter Tryz.func112,Tryz.ntmps112
       go_wp2
       go_ret;exact ⟨aD (by first|exact HR.out.symm|(rw [HR.out];exact hl2)),HA.out⟩
     · have hl2:((n.cx.length:Int)==0)=false:=by rw [beq_eq_false_iff_ne];omega
       have HR:Hid (fb=false):=by unfold Hid;rw [HL.out,hx,decide_eq_false hl];rfl
       clear hl
       go_enter Tryz.func112,Tryz.ntmps112
       go_wp2
       go_ret;exact ⟨aD (by first|exact HR.out.symm|(rw [HR.out];exact hl2)),HA.out⟩
def BxG (w:World) (N:Nat) (v:Value):Prop:=w.cell? ⟨N,0,none⟩=some v∧N<w.heap.size
theorem tZ (N:Nat) (v:Value):KeepP fun w1=>BxG w1 N v:=fun _ _ h hb=>⟨(hb.cell (p:=⟨N,0,none⟩) h.2).trans h.1,Nat.lt_of_lt_of_le h.2 hb.size⟩
theorem BxG.new {w:World} {N:Nat} (hN:w.heap.size=N) (v:Value):BxG (w.alloc (.cells #[v] 27)) N v:=by
 subst hN;exact ⟨by simp,by simp⟩
set_option maxHeartbeats 6400000 in
theorem wO {G:List Nd} {v:Value} {w:World} (h:NodesAt w v G):
 Calls Tryz.prog 62 #[.agg #[v]] w fun e w'=>e= .returned (.bool (eO G))∧Below w.heap.size w w':=by
 have HD:Hid (∀ w',Below w.heap.size w w'→NodesAt w' v G):=fun w' hb=>h.below hb
 obtain ⟨ad,cap,rfl,hcap,hcs⟩:=h;cases G with
 |nil=>
  rw [List.length_nil]
  go_enter Tryz.func62,Tryz.ntmps62
  go_wp2
  go_ret;exact ⟨rfl,aC _ _⟩
 |cons n0 r=>
  obtain ⟨g,o,rfl,hg,hcs⟩:∃ g o,ad=some ⟨g,o,none⟩∧g<w.heap.size∧∀ i (h:i<(n0::r).length),∃ vc ve,NdIn w g (o+i*6) (n0::r)[i] vc ve:=by
   rcases hcs with h|h
   · cases h
   · exact h
  have HX:Hid (∀ W,Below w.heap.size w W→∀ i (h:i<(n0::r).length),∃ vc ve,NdIn W g (o+i*6) (n0::r)[i] vc ve):=fun W hb i hi=>by obtain ⟨vc,ve,h⟩:=hcs i hi;exact ⟨vc,ve,h.below hb⟩
  obtain ⟨vc0,ve0,⟨c0,c1,c2,c3,c4,c5⟩,⟨hp0,he0⟩,_⟩:=hcs 0 (by simp);clear hcs HD;have HMG:Hid (eO (n0::r)=(decide (r.length+1≤128)&&jI n0&&r.all eG&&(n0::r).all fun m=>dE (r.length+1) m.ed)):=rfl;rw [List.length_cons] at hcap ⊢;obtain ⟨nn,hnn⟩:∃ nn,r.length+1=nn:=⟨_,rfl⟩;have HNN:=aB hnn;rw [hnn] at hcap ⊢;have hni:((r.length:Int)+1)=(nn:Int):=by omega
  rw [hni] at HMG;have HF:Hid (∀ W,Below w.heap.size w W→Calls Tryz.prog 112 #[.agg #[.string n0.nm,.int .i64 n0.a,.int .i64 n0.b,.int .i64 n0.c,vc0,ve0]] W fun e w'=>e= .returned (.bool (jI n0))∧Below W.heap.size W w'):=fun W hb=>CS (hp0.below hb) (he0.below hb)
  obtain ⟨ac0,cc0,rfl⟩:=hp0.sl;obtain ⟨ae0,ce0,rfl⟩:=he0.sl;have HB0:Hid (Below w.heap.size w (w.alloc (.cells #[.slice (some ⟨g,o,none⟩) nn cap] 27))∧BxG (w.alloc (.cells #[.slice (some ⟨g,o,none⟩) nn cap] 27)) w.heap.size (.slice (some ⟨g,o,none⟩) nn cap)):=⟨aC _ _,BxG.new rfl _⟩;have HKB:Hid (KeepP fun W=>Below w.heap.size w W∧BxG W w.heap.size (.slice (some ⟨g,o,none⟩) nn cap)):=(aG w).and (tZ _ _);have lift:∀ i v,w.cell? ⟨g,i,none⟩=some v→(w.alloc (.cells #[.slice (some ⟨g,o,none⟩) nn cap] 27)).cell? ⟨g,i,none⟩=some v:=fun i v h=>((aC w _).cell (p:=⟨g,i,none⟩) hg).trans h
  simp only [Nat.zero_mul,Nat.add_zero,List.getElem_cons_zero] at c0 c1 c2 c3 c4 c5;have k0:=lift _ _ c0;have k1:=lift _ _ c1;have k2:=lift _ _ c2;have k3:=lift _ _ c3;have k4:=lift _ _ c4;have k5:=lift _ _ c5;have hn0:((nn:Int)==0)=false:=by rw [beq_eq_false_iff_ne];omega
  have hn1:(0:Int)<(nn:Int):=by omega
  have hn2:0<nn:=by omega
  clear c0 c1 c2 c3 c4 c5 lift hp0 he0
  by_cases hbig:nn≤128
  · have hb128:decide ((128:Int)<(nn:Int))=false:=decide_eq_false (by omega)
    cases hfb:jI n0
    · have HR:Hid (eO (n0::r)=false):=by unfold Hid;rw [HMG.out,hfb];simp
      rw [hfb] at HF;clear hnn hni HMG
      go_enter Tryz.func62,Tryz.ntmps62
      go_wp2_with (go_at_call 112;refine (HF.out _ HB0.out.1).mono ?_;rintro e w1 ⟨rfl,ok⟩;have HB1:=aB (aA HB0.out.1 ok);clear ok)
      go_ret;exact ⟨aD HR.out.symm,HB1.out⟩
    · have HM2:Hid (eO (n0::r)=(r.all eG&&(n0::r).all fun m=>dE nn m.ed)):=by unfold Hid;rw [HMG.out,hfb,decide_eq_true (by omega)];simp
      rw [hfb] at HF;clear HMG hni
      by_cases hcap1:cap=1
      · subst hcap1
        have hr00:r.length≤0:=by omega
        have hc1:(1:Int)≤(nn:Int):=by omega
        have hc2:(nn:Int)≤1:=by omega
        have hrl:((nn:Int) - 1)=(r.length:Int):=by omega
        have hrn:nn - 1=r.length:=by omega
        clear hnn
        go_enter Tryz.func62,Tryz.ntmps62
        go_wp2_with (go_at_call 112;refine (HF.out _ HB0.out.1).mono ?_;rintro e w1 ⟨rfl,ok⟩;have HB1:=aB (HKB.out _ _ HB0.out ok);obtain ⟨y0,y1⟩:=HB1.out.2;clear ok)
        go_loopw [29] (fun i wr=>∃ k:Nat,k≤r.length∧i= .int .i64 k∧(Below w.heap.size w wr∧BxG wr w.heap.size (.slice (some ⟨g,o,none⟩) nn 1))∧(r.take k).all eG=true) (fun i _=>r.length - (intOf i).toNat)
        case atStart=>exact ⟨0,Nat.zero_le _,rfl,HB1.out,rfl⟩
        case round=>
         obtain ⟨k,hk,rfl,hbw,hall⟩:=hrel;have HBW:=aB hbw;clear y0 y1;obtain ⟨y0,y1⟩:=hbw.2
         by_cases hlt:k<r.length
         · exact absurd hlt (by omega)
         · obtain rfl:k=r.length:=by omega
           have HAL:Hid (r.all eG=true):=by rw [List.take_length] at hall;exact hall
           have HBL:=aB hbw;have hki:¬ ((r.length:Int)<(r.length:Int)):=by omega
           clear hall hbw
           go_wp2_with fail
           go_loopw [40] (fun i wr=>∃ k:Nat,k≤nn∧i= .int .i64 k∧(Below w.heap.size w wr∧BxG wr w.heap.size (.slice (some ⟨g,o,none⟩) nn 1))∧((n0::r).take k).all (fun m=>dE nn m.ed)=true) (fun i _=>nn - (intOf i).toNat)
           case atStart=>exact ⟨0,Nat.zero_le _,rfl,HBL.out,rfl⟩
           case round=>
            obtain ⟨k,hk,rfl,hbw,hall⟩:=hrel;have HBW:=aB hbw
            by_cases hlt:k<nn
            · have hki:(k:Int)<(nn:Int):=by omega
              have hkG:k<(n0::r).length:=by rw [List.length_cons];have:=HNN.out;omega
              obtain ⟨vc,ve,⟨d0,d1,d2,d3,d4,d5⟩,⟨hpk,hek⟩,_⟩:=HX.out _ hbw.1 k hkG;have HE:Hid (∀ W,Below wr.heap.size wr W→Calls Tryz.prog 114 #[ve,.int .i64 (nn:Int)] W fun e w'=>e= .returned (.bool (dE nn (n0::r)[k].ed))∧Below W.heap.size W w'):=fun W hb=>qM (hek.below hb)
              have HT:Hid (((n0::r).take (k+1)).all (fun m=>dE nn m.ed)=dE nn (n0::r)[k].ed):=by
               unfold Hid;rw [List.take_succ_eq_append_getElem hkG,List.all_append,hall]
               simp
              have HT2:Hid (dE nn (n0::r)[k].ed=false→((n0::r).all fun m=>dE nn m.ed)=false):=fun hf=>by
               rw [List.all_eq_false];exact ⟨_,List.getElem_mem hkG,by rw [hf];simp⟩
              obtain ⟨ac,cc,rfl⟩:=hpk.sl;obtain ⟨ae,ce,rfl⟩:=hek.sl;clear hall hbw hpk hek;generalize (n0::r)[k]=m at*;have HA:Hid ((Below w.heap.size w (wr.alloc (.cells #[.string m.nm,.int .i64 m.a,.int .i64 m.b,.int .i64 m.c,.slice ac m.cx.length cc,.slice ae m.ed.length ce] 60))∧BxG (wr.alloc (.cells #[.string m.nm,.int .i64 m.a,.int .i64 m.b,.int .i64 m.c,.slice ac m.cx.length cc,.slice ae m.ed.length ce] 60)) w.heap.size (.slice (some ⟨g,o,none⟩) nn 1))∧BxNd (wr.alloc (.cells #[.string m.nm,.int .i64 m.a,.int .i64 m.b,.int .i64 m.c,.slice ac m.cx.length cc,.slice ae m.ed.length ce] 60)) wr.heap.size m (.slice ac m.cx.length cc) (.slice ae m.ed.length ce)):=⟨HKB.out _ _ HBW.out (aC _ _),BxNd.new rfl _ _ _⟩;cases hme:dE nn m.ed
              · have HR:Hid (eO (n0::r)=false):=by unfold Hid;rw [HM2.out,HT2.out hme];simp
                rw [hme] at HE
                go_wp2_with (go_at_call 114;refine (HE.out _ (aC _ _)).mono ?_;rintro e w5 ⟨rfl,ok⟩;have HB5:=aB (aA HA.out.1.1 ok);clear ok)
                go_ret;exact ⟨aD HR.out.symm,HB5.out⟩
              · rw [hme] at HE HT
                go_wp2_with (go_at_call 114;refine (HE.out _ (aC _ _)).mono ?_;rintro e w5 ⟨rfl,ok⟩;have HB5:=aB (HKB.out _ _ HA.out.1 ok);clear ok)
                exact ⟨⟨k+1,by omega,by go_num,HB5.out,HT.out⟩,by simp [intOf];omega⟩
            · obtain rfl:k=nn:=by omega
              have HR:Hid (eO (n0::r)=true):=by
               unfold Hid;have hz:k=(n0::r).length:=by rw [List.length_cons];have:=HNN.out;omega
               rw [HM2.out,HAL.out];rw [hz,List.take_length] at hall;rw [←hz] at hall;exact hall
              clear hall hbw
              go_wp2
              go_ret;exact ⟨aD HR.out.symm,HBW.out.1⟩
      · have hc1:(1:Int)≤(nn:Int):=by omega
        have hc2:(nn:Int)≤(cap:Int):=by omega
        have hrl:((nn:Int) - 1)=(r.length:Int):=by omega
        have hrn:nn - 1=r.length:=by omega
        clear hnn
        go_enter Tryz.func62,Tryz.ntmps62
        go_wp2_with (go_at_call 112;refine (HF.out _ HB0.out.1).mono ?_;rintro e w1 ⟨rfl,ok⟩;have HB1:=aB (HKB.out _ _ HB0.out ok);obtain ⟨y0,y1⟩:=HB1.out.2;clear ok)
        go_loopw [29] (fun i wr=>∃ k:Nat,k≤r.length∧i= .int .i64 k∧(Below w.heap.size w wr∧BxG wr w.heap.size (.slice (some ⟨g,o,none⟩) nn cap))∧(r.take k).all eG=true) (fun i _=>r.length - (intOf i).toNat)
        case atStart=>exact ⟨0,Nat.zero_le _,rfl,HB1.out,rfl⟩
        case round=>
         obtain ⟨k,hk,rfl,hbw,hall⟩:=hrel;have HBW:=aB hbw;clear y0 y1;obtain ⟨y0,y1⟩:=hbw.2
         by_cases hlt:k<r.length
         · have hki:(k:Int)<(r.length:Int):=by omega
           obtain ⟨vc,ve,hnd⟩:=HX.out _ hbw.1 (k+1) (by simp;omega);rw [show o+(k+1)*6=o+6+k*6 by omega,List.getElem_cons_succ] at hnd;obtain ⟨⟨d0,d1,d2,d3,d4,d5⟩,⟨hpk,hek⟩,_⟩:=hnd;have HE:Hid (∀ W,Below wr.heap.size wr W→Calls Tryz.prog 113 #[.agg #[.string r[k].nm,.int .i64 r[k].a,.int .i64 r[k].b,.int .i64 r[k].c,vc,ve]] W fun e w'=>e= .returned (.bool (eG r[k]))∧Below W.heap.size W w'):=fun W hb=>CR (hpk.below hb) (hek.below hb)
           have HT:Hid ((r.take (k+1)).all eG=eG r[k]):=by
            unfold Hid;rw [List.take_succ_eq_append_getElem hlt,List.all_append,hall]
            simp
           have HT2:Hid (eG r[k]=false→r.all eG=false):=fun hf=>by
            rw [List.all_eq_false];exact ⟨_,List.getElem_mem hlt,by rw [hf];simp⟩
           obtain ⟨ac,cc,rfl⟩:=hpk.sl;obtain ⟨ae,ce,rfl⟩:=hek.sl;clear hall hbw hpk hek;generalize r[k]=m at*;have HA:Hid ((Below w.heap.size w (wr.alloc (.cells #[.string m.nm,.int .i64 m.a,.int .i64 m.b,.int .i64 m.c,.slice ac m.cx.length cc,.slice ae m.ed.length ce] 60))∧BxG (wr.alloc (.cells #[.string m.nm,.int .i64 m.a,.int .i64 m.b,.int .i64 m.c,.slice ac m.cx.length cc,.slice ae m.ed.length ce] 60)) w.heap.size (.slice (some ⟨g,o,none⟩) nn cap))∧BxNd (wr.alloc (.cells #[.string m.nm,.int .i64 m.a,.int .i64 m.b,.int .i64 m.c,.slice ac m.cx.length cc,.slice ae m.ed.length ce] 60)) wr.heap.size m (.slice ac m.cx.length cc) (.slice ae m.ed.length ce)):=⟨HKB.out _ _ HBW.out (aC _ _),BxNd.new rfl _ _ _⟩;cases hme:eG m
           · have HR:Hid (eO (n0::r)=false):=by unfold Hid;rw [HM2.out,HT2.out hme];rfl
             rw [hme] at HE
             go_wp2_with (go_at_call 113;refine (HE.out _ (aC _ _)).mono ?_;rintro e w5 ⟨rfl,ok⟩;have HB5:=aB (aA HA.out.1.1 ok);clear ok)
             go_ret;exact ⟨aD HR.out.symm,HB5.out⟩
           · rw [hme] at HE HT
             go_wp2_with (go_at_call 113;refine (HE.out _ (aC _ _)).mono ?_;rintro e w5 ⟨rfl,ok⟩;have HB5:=aB (HKB.out _ _ HA.out.1 ok);clear ok)
             exact ⟨⟨k+1,by omega,by go_num,HB5.out,HT.out⟩,by simp [intOf];omega⟩
         · obtain rfl:k=r.length:=by omega
           have HAL:Hid (r.all eG=true):=by rw [List.take_length] at hall;exact hall
           have HBL:=aB hbw;have hki:¬ ((r.length:Int)<(r.length:Int)):=by omega
           clear hall hbw
           go_wp2_with fail
           go_loopw [40] (fun i wr=>∃ k:Nat,k≤nn∧i= .int .i64 k∧(Below w.heap.size w wr∧BxG wr w.heap.size (.slice (some ⟨g,o,none⟩) nn cap))∧((n0::r).take k).all (fun m=>dE nn m.ed)=true) (fun i _=>nn - (intOf i).toNat)
           case atStart=>exact ⟨0,Nat.zero_le _,rfl,HBL.out,rfl⟩
           case round=>
            obtain ⟨k,hk,rfl,hbw,hall⟩:=hrel;have HBW:=aB hbw
            by_cases hlt:k<nn
            · have hki:(k:Int)<(nn:Int):=by omega
              have hkG:k<(n0::r).length:=by rw [List.length_cons];have:=HNN.out;omega
              obtain ⟨vc,ve,⟨d0,d1,d2,d3,d4,d5⟩,⟨hpk,hek⟩,_⟩:=HX.out _ hbw.1 k hkG;have HE:Hid (∀ W,Below wr.heap.size wr W→Calls Tryz.prog 114 #[ve,.int .i64 (nn:Int)] W fun e w'=>e= .returned (.bool (dE nn (n0::r)[k].ed))∧Below W.heap.size W w'):=fun W hb=>qM (hek.below hb)
              have HT:Hid (((n0::r).take (k+1)).all (fun m=>dE nn m.ed)=dE nn (n0::r)[k].ed):=by
               unfold Hid;rw [List.take_succ_eq_append_getElem hkG,List.all_append,hall]
               simp
              have HT2:Hid (dE nn (n0::r)[k].ed=false→((n0::r).all fun m=>dE nn m.ed)=false):=fun hf=>by
               rw [List.all_eq_false];exact ⟨_,List.getElem_mem hkG,by rw [hf];simp⟩
              obtain ⟨ac,cc,rfl⟩:=hpk.sl;obtain ⟨ae,ce,rfl⟩:=hek.sl;clear hall hbw hpk hek;generalize (n0::r)[k]=m at*;have HA:Hid ((Below w.heap.size w (wr.alloc (.cells #[.string m.nm,.int .i64 m.a,.int .i64 m.b,.int .i64 m.c,.slice ac m.cx.length cc,.slice ae m.ed.length ce] 60))∧BxG (wr.alloc (.cells #[.string m.nm,.int .i64 m.a,.int .i64 m.b,.int .i64 m.c,.slice ac m.cx.length cc,.slice ae m.ed.length ce] 60)) w.heap.size (.slice (some ⟨g,o,none⟩) nn cap))∧BxNd (wr.alloc (.cells #[.string m.nm,.int .i64 m.a,.int .i64 m.b,.int .i64 m.c,.slice ac m.cx.length cc,.slice ae m.ed.length ce] 60)) wr.heap.size m (.slice ac m.cx.length cc) (.slice ae m.ed.length ce)):=⟨HKB.out _ _ HBW.out (aC _ _),BxNd.new rfl _ _ _⟩;cases hme:dE nn m.ed
              · have HR:Hid (eO (n0::r)=false):=by unfold Hid;rw [HM2.out,HT2.out hme];simp
                rw [hme] at HE
                go_wp2_with (go_at_call 114;refine (HE.out _ (aC _ _)).mono ?_;rintro e w5 ⟨rfl,ok⟩;have HB5:=aB (aA HA.out.1.1 ok);clear ok)
                go_ret;exact ⟨aD HR.out.symm,HB5.out⟩
              · rw [hme] at HE HT
                go_wp2_with (go_at_call 114;refine (HE.out _ (aC _ _)).mono ?_;rintro e w5 ⟨rfl,ok⟩;have HB5:=aB (HKB.out _ _ HA.out.1 ok);clear ok)
                exact ⟨⟨k+1,by omega,by go_num,HB5.out,HT.out⟩,by simp [intOf];omega⟩
            · obtain rfl:k=nn:=by omega
              have HR:Hid (eO (n0::r)=true):=by
               unfold Hid;have hz:k=(n0::r).length:=by rw [List.length_cons];have:=HNN.out;omega
               rw [HM2.out,HAL.out];rw [hz,List.take_length] at hall;rw [←hz] at hall;exact hall
              clear hall hbw
              go_wp2
              go_ret;exact ⟨aD HR.out.symm,HBW.out.1⟩
  · have hb128:decide ((128:Int)<(nn:Int))=true:=decide_eq_true (by omega)
    have HR:Hid (eO (n0::r)=false):=by unfold Hid;rw [HMG.out,decide_eq_false (by omega)];rfl
    clear hnn hni HMG
    go_enter Tryz.func62,Tryz.ntmps62
    go_wp2
    go_ret;exact ⟨aD HR.out.symm,HB0.out.1⟩
def bsV (a b c:Int):Bs:=(aL a b c).data.toList
def lU (p:Pn):List Bs:=[[119,105,116,104],p.nm.data.toList,bsV p.a p.b p.c]
def mB (e:Eg):List Bs:=[[116,111],e.lb.data.toList,Lib.itoa e.to]
def dG (n:Nd):List (List Bs):=n.cx.map lU++n.ed.map mB
def LU (w0 w1:World) (vl v:Value) (ps:List (Value×List Bs)) (w:World):Prop:=
 LL w w0.heap.size v ps∧Below w0.heap.size w0 w∧w1.grownBy w vl.ownBlock∧(v.ownBlock=vl.ownBlock∨∃ k,v.ownBlock=some k∧w1.heap.size≤k)
theorem mM {w1 w w':World} {row:Option Nat} (h:w1.grownBy w row) (hb:Below w.heap.size w w'):w1.grownBy w' row:=
 ⟨hb.os.trans h.os,hb.tape.trans h.tape,hb.output.trans h.output,Nat.le_trans h.size hb.size,fun k hk hn=>(hb.block k (Nat.lt_of_lt_of_le hk h.size)).trans (h.block k hk hn)⟩
theorem LU.below {w0 w1:World} {vl v:Value} {ps:List (Value×List Bs)} {w w':World} (h:LU w0 w1 vl v ps w) (hb:Below w.heap.size w w'):LU w0 w1 vl v ps w':=
 ⟨h.1.below hb,aA h.2.1 hb,mM h.2.2.1 hb,h.2.2.2⟩
theorem LU.start {w0 w1:World} {vl:Value} {ps:List (Value×List Bs)} (h:LL w1 w0.heap.size vl ps) (hb:Below w0.heap.size w0 w1):LU w0 w1 vl vl ps w1:=
 ⟨h,hb,⟨rfl,rfl,rfl,Nat.le_refl _,fun _ _ _=>rfl⟩,Or.inl rfl⟩
theorem LU.cell {w0 w1:World} {vl v:Value} {ps:List (Value×List Bs)} {w:World} (h:LU w0 w1 vl v ps w) {N:Nat} (hN:N<w1.heap.size) (hv:vl.ownBlock≠some N) (i:Nat):w.cell? ⟨N,i,none⟩=w1.cell? ⟨N,i,none⟩:=
 World.cell?_of_block (h.2.2.1.block N hN (fun e=>hv e.symm))
theorem rY {w0 w1 wx:World} {vl v:Value} {ps:List (Value×List Bs)} {ops:Array Oper} {o:Oper} {f:Act} {K:Act→World→Prop} {Q:Exit→Act→World→Prop} {E:Prop} (hgd:o.guard=none) (s t:Operand)
 (ho:o.op= .call { callee:= .builtin .append,args:= #[s,t],argTypes:= #[151,151] }) (hs:f.eval s=v) (hU:LU w0 w1 vl v ps wx) (ws:List Bs) (hws:ws.length=3) (cs:Array Value) (hcs:cs.toList=lD ws)
 {M M1:Nat} (hM:wx.heap.size=M) (hM1:M1=M+1) (hx:f.eval t= .slice (some ⟨M1,0,none⟩) 1 1) (hlen:ps.length≤1000000)
 (h:∀ v' w',LU w0 w1 vl v' (ps++[(.slice (some ⟨M,0,none⟩) 3 3,ws)]) w'→(∀ N i,N<wx.heap.size→v.ownBlock≠some N→w'.cell? ⟨N,i,none⟩=wx.cell? ⟨N,i,none⟩)→K (f.put o.dst v') w'):
 if Region.wanted o (yielded ops f.tmps)=true then Oper.wp Tryz.prog o f ((wx.alloc (.cells cs 9)).alloc (.cells #[.slice (some ⟨M,0,none⟩) 3 3] 50)) K Q else E:=by
 have hw:Region.wanted o (yielded ops f.tmps)=true:=by simp [Region.wanted,hgd]
 rw [if_pos hw];subst hM hM1;obtain ⟨i0,hi,hz0,hz1,hz2⟩:=Sc.bK Sc.DR;have hb1:=Sc.aC wx (.cells cs 9);have hb2:=Sc.aC (wx.alloc (.cells cs 9)) (.cells #[.slice (some ⟨wx.heap.size,0,none⟩) 3 3] 50);have hsz1:(wx.alloc (.cells cs 9)).heap.size=wx.heap.size+1:=by simp
 have hUx:=hU.below (Sc.aA hb1 hb2)
 have hblk:((wx.alloc (.cells cs 9)).alloc (.cells #[.slice (some ⟨wx.heap.size,0,none⟩) 3 3] 50)).heap[wx.heap.size]? =some (.cells cs 9 (0,0)):=by
  rw [hb2.block wx.heap.size (by simp)];show (wx.heap.push _)[wx.heap.size]? =_;rw [Array.getElem?_push,if_pos rfl]
 have hcl:cs.size=3:=by
  have:=congrArg List.length hcs
  rw [Sc.mF,hws] at this
  simpa using this
 have hww:=hU.2.1.size
 have hown:OwnW ((wx.alloc (.cells cs 9)).alloc (.cells #[.slice (some ⟨wx.heap.size,0,none⟩) 3 3] 50)) w0.heap.size (.slice (some ⟨wx.heap.size,0,none⟩) 3 3) ws:=by
  refine ⟨by rw [Sc.mF];simp,Or.inr ⟨wx.heap.size,3,cs,by rw [hws],hww,hblk,by rw [hws];decide,?_⟩⟩;exact ⟨by decide,by rw [hcl],by rw [hcs,List.take_of_length_le (by rw [Sc.mF];omega)]⟩
 have hst:Sc.St w0 v (.slice (some ⟨wx.heap.size,0,none⟩) 3 3) ps ws ((wx.alloc (.cells cs 9)).alloc (.cells #[.slice (some ⟨wx.heap.size,0,none⟩) 3 3] 50)):=by
  refine ⟨hUx.1,hown,fun p hp e=> ?_,Or.inr fun e=> ?_,hUx.2.1⟩
  · have:=(World.ownsRow.lt (hU.1.2.1 p hp).1 _ e.symm).2
    simp only at this
    omega
  · have:=(World.ownsRow.lt hU.1.1 _ e.symm).2
    simp only at this
    omega
 obtain ⟨v1,w',hr,hown1,hg1,_,hat⟩:=run_append_own_at (P:=Tryz.prog) ((wx.alloc (.cells cs 9)).alloc (.cells #[.slice (some ⟨wx.heap.size,0,none⟩) 3 3] 50)) w0.heap.size 151 o.type 50 i0 _ 1 24 Tryz.underlying151 hi hz0 hz1 hz2 rfl (by decide) v _ _ hUx.1.1 ⟨wx.heap.size+1,0,none⟩ 1 1 [.slice (some ⟨wx.heap.size,0,none⟩) 3 3] rfl
  (World.news_of_block (cs:= #[.slice (some ⟨wx.heap.size,0,none⟩) 3 3]) (t:=50) (fr:=(0,0)) (by show ((wx.alloc (.cells cs 9)).heap.push _)[wx.heap.size+1]? =_;rw [Array.getElem?_push,if_pos (by simp)])) (by simp [Value.oneCell']) (by unfold maxLen;omega) (by omega) (by simp;omega)
 have hnew:=hst.line (by intro e;rw [e] at hws;cases hws) hown1 hg1 hat;unfold Oper.wp execOp;simp only [ho,resolve,invoke,builtin,Sem.run_bind,Sem.run_pure,Result.andThen_ok,List.map_toArray,List.map_cons,List.map_nil,hs,hx,hr];refine h v1 w' ⟨hnew.1,hnew.2.2.2.2,?_,?_⟩ fun N i hN hne=>(World.cell?_of_block (hg1.block N (by simp;omega) (fun e=>hne e.symm))).trans ((Sc.aA hb1 hb2).cell (p:=⟨N,i,none⟩) hN)
 · have hg0:=hUx.2.2.1
   refine ⟨hg1.os.trans hg0.os,hg1.tape.trans hg0.tape,hg1.output.trans hg0.output,Nat.le_trans hg0.size hg1.size,fun k hk hn=> ?_⟩;refine (hg1.block k (Nat.lt_of_lt_of_le hk hg0.size) fun e=> ?_).trans (hg0.block k hk hn)
   rcases hU.2.2.2 with e2|⟨j,e2,hj⟩
   · exact hn (by rw [←e2];exact e)
   · rw [e2] at e
     have:=Option.some.inj e
     omega
 · rcases hat with e|e
   · rw [e];exact hU.2.2.2
   · have:=hU.2.2.1.size
     exact Or.inr ⟨_,e,by simp;omega⟩
end Go.Proofs.YtmnhnofnlcbliaaGreatDoor.Lo
