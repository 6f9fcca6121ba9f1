/- Iz2, Iy0, Iy1, Ps1b, Pk9, Rd1, Ps4, Ps7, Ps8, Iy2: their declarations that are needed, laid in one text, remarks and blanks left out. -/
import Derived.Deep.CutRange
import Derived.RegionTactic
import Derived.ChangeAlike
import Derived.Deep.RegionLaw
import Derived.Test.YtlmpiohbmlddiaaGreatDoorMg23
namespace Go.Proofs.YtlmpiohbmlddiaaGreatDoor
open Go.RowKit Go.Maps Go.WideMaps
set_option maxRecDepth 100000
theorem rL {α:Type} (f:α→List Value) (z:Nat) (hf:∀ x,(f x).length=z):∀ (l:List α) (n:Nat),(l.take n).flatMap f=(l.flatMap f).take (n*z)
 |[],n=>by simp
 |x::l,0=>by simp
 |x::l,n+1=>by
  rw [List.take_succ_cons,List.flatMap_cons,List.flatMap_cons,rL f z hf l n,List.take_append,hf,List.take_of_length_le (l:=f x) (by rw [hf,Nat.succ_mul];omega)]
  congr 2
  rw [Nat.succ_mul];omega
theorem rM {α:Type} (f:α→List Value) (z:Nat) (hf:∀ x,(f x).length=z):∀ (l:List α) (n:Nat),(l.drop n).flatMap f=(l.flatMap f).drop (n*z)
 |[],n=>by simp
 |x::l,0=>by simp
 |x::l,n+1=>by
  rw [List.drop_succ_cons,List.flatMap_cons,rM f z hf l n,List.drop_append,hf,List.drop_of_length_le (l:=f x) (by rw [hf,Nat.succ_mul];omega),List.nil_append]
  congr 1
  rw [Nat.succ_mul];omega
theorem UR (g o j:Nat):(⟨g,o,none⟩:Addr).add j=⟨g,o+j,none⟩:=by unfold Addr.add;split<;>simp_all
theorem GA {w:World} {B:Nat} {v:Value} {ts:List Fi} (h:OwnFi w B v ts):(v= .slice none 0 0∧ts=[])∨∃ g cap,v= .slice (some ⟨g,0,none⟩) ts.length cap∧ts.length≤cap∧g<w.heap.size∧B≤g∧∀ j u,(ts.flatMap cV)[j]? =some u→w.cell? ⟨g,j,none⟩=some u:=by
 rcases h.2 with ⟨e,hn⟩|⟨g,cap,cur,rfl,hB,hgg,hc,_,_,ht⟩
 · exact Or.inl ⟨e,List.length_eq_zero_iff.1 hn⟩
 · refine Or.inr ⟨g,cap,rfl,hc,(Array.getElem?_eq_some_iff.1 hgg).1,hB,fun j u hj=> ?_⟩
   have hjl:j<ts.length*3:=by
    have:=(List.getElem?_eq_some_iff.1 hj).1
    rwa [yZ] at this
   exact (World.ownsRow.cellAt h j hjl).trans hj
theorem pF (ts:List Fi) (i:Nat) (hi:i<ts.length):(ts.flatMap cV)[i*3]? =some (.string ts[i].pa)∧(ts.flatMap cV)[i*3+1]? =some (.bool ts[i].dr)∧(ts.flatMap cV)[i*3+2]? =some (.string ts[i].da):=by
 haveI:Inhabited Fi:=⟨⟨⟨#[]⟩,false,⟨#[]⟩⟩⟩
 have h:=fun r hr=>hZ cV 3 (fun _=>rfl) ts i r hi hr
 rw [getElem!_pos ts i hi] at h;exact ⟨(h 0 (by decide)).trans rfl,(h 1 (by decide)).trans rfl,(h 2 (by decide)).trans rfl⟩
theorem OU {w:World} {g:Nat} {ts:List Fi} (h:∀ j u,(ts.flatMap cV)[j]? =some u→w.cell? ⟨g,j,none⟩=some u) (k:Nat):kU w (some ⟨g,0,none⟩) (ts.take k):=by
 refine Or.inr ⟨g,0,rfl,fun j u hj=> ?_⟩;rw [rL cV 3 (fun _=>rfl)] at hj
 by_cases q:j<k*3
 · rw [List.getElem?_take_of_lt q] at hj
   rw [UR,Nat.zero_add];exact h j u hj
 · rw [List.getElem?_take_eq_none (by omega)] at hj
   cases hj
theorem OV {w:World} {g:Nat} {ts:List Fi} (h:∀ j u,(ts.flatMap cV)[j]? =some u→w.cell? ⟨g,j,none⟩=some u) (k:Nat):kU w (some ⟨g,k*3,none⟩) (ts.drop k):=by
 refine Or.inr ⟨g,k*3,rfl,fun j u hj=> ?_⟩;rw [rM cV 3 (fun _=>rfl),List.getElem?_drop] at hj;rw [UR];exact h _ u hj
theorem zA {w:World} {g o:Nat} {ts:List Fi} (h:ts=[]):kU w (some ⟨g,o,none⟩) ts:=by
 subst h;exact Or.inr ⟨g,o,rfl,fun j u hj=>by cases hj⟩
def TN (w:World) (us:List Fi) (e:Ending) (w':World):Prop:=∃ v',e= .returned v'∧OwnFi w' w.heap.size v' us∧Below w.heap.size w w'
set_option maxHeartbeats 25600000 in
theorem DH {w:World} {B:Nat} {v:Value} {ts:List Fi} (h:OwnFi w B v ts) (hl:ts.length≤1000000) (x:Fi):Calls Tryz.prog 29 #[v,.agg #[.string x.pa,.bool x.dr,.string x.da]] w (TN w (cM ts x)):=by
 have HB0:Hid (Below w.heap.size w (w.alloc (.cells #[.string x.pa,.bool x.dr,.string x.da] 45))):=aF _ _;have l0:(w.alloc (.cells #[.string x.pa,.bool x.dr,.string x.da] 45)).cell? ⟨w.heap.size,0,none⟩=some (.string x.pa):=by simp
 have l1:(w.alloc (.cells #[.string x.pa,.bool x.dr,.string x.da] 45)).cell? ⟨w.heap.size,1,none⟩=some (.bool x.dr):=by simp
 have l2:(w.alloc (.cells #[.string x.pa,.bool x.dr,.string x.da] 45)).cell? ⟨w.heap.size,2,none⟩=some (.string x.da):=by simp
 have hwl:w.heap.size<(w.alloc (.cells #[.string x.pa,.bool x.dr,.string x.da] 45)).heap.size:=by simp
 have HBK:Hid (∀ W2,Below (w.alloc (.cells #[.string x.pa,.bool x.dr,.string x.da] 45)).heap.size (w.alloc (.cells #[.string x.pa,.bool x.dr,.string x.da] 45)) W2→(W2.cell? ⟨w.heap.size,0,none⟩=some (.string x.pa)∧W2.cell? ⟨w.heap.size,1,none⟩=some (.bool x.dr)∧W2.cell? ⟨w.heap.size,2,none⟩=some (.string x.da))∧Below w.heap.size w W2):=fun W2 hb=>⟨⟨(hb.cell (p:=⟨w.heap.size,0,none⟩) hwl).trans l0,(hb.cell (p:=⟨w.heap.size,1,none⟩) hwl).trans l1,(hb.cell (p:=⟨w.heap.size,2,none⟩) hwl).trans l2⟩,aB HB0.out hb⟩
 have HQ:Hid (∀ v' W2 us,us=cM ts x→OwnFi W2 (w.alloc (.cells #[.string x.pa,.bool x.dr,.string x.da] 45)).heap.size v' us→Below (w.alloc (.cells #[.string x.pa,.bool x.dr,.string x.da] 45)).heap.size (w.alloc (.cells #[.string x.pa,.bool x.dr,.string x.da] 45)) W2→TN w (cM ts x) (.returned v') W2):=fun v' W2 us e ho hb=>⟨v',rfl,cP (by rw [←e];exact ho) (by simp),aB HB0.out hb⟩
 clear l0 l1 l2;generalize TN w (cM ts x)=Q at*
 rcases GA h with hq|hq
 · clear h
   obtain ⟨rfl,hpe⟩:=hq
   have HIN:Hid ([]++[x]++[]=cM ts x):=by
    unfold Hid;rw [hpe];rfl
   have HLT:Hid (([]:List Fi).length=0):=rfl;have HL2:Hid (([]++[x]:List Fi).length=0+1):=rfl;clear hpe
   go_enter Tryz.func29,Tryz.ntmps29
   go_wp2_with fail
   generalize (w.alloc (.cells #[.string x.pa,.bool x.dr,.string x.da] 45))=W at*
   go_loopw [5] (fun vi wr=>vi= .int .i64 0∧Below W.heap.size W wr) (fun _ _=>0)
   case atStart=>exact ⟨rfl,Below.refl _ _⟩
   case round=>
    obtain ⟨rfl,hbw⟩:=hrel;have HK:Hid (KeepP fun w1=>Below W.heap.size W w1):=aD W;have HO:Hid (Below W.heap.size W wr):=hbw;clear hbw
    go_wp2_with fail
    refine aM HK (by kernel_rfl) (by kernel_rfl) (by first|exact HO.out|exact HK.out.drew HO.out) ?_;intro C HIN HOUT;clear HO
    repeat
     (with_reducible refine wpQuiet_step (fun K hK=> ?_)
      go_simp
      first
       |(refine hK _ ?_;clear hK K)
       |(apply Exists.intro;refine ⟨fun w1 hC=> ?_,hK _ ?_⟩;(focus ((first|(exact rfl)|(obtain hb1:=HOUT.out w1 hC;clear hC;go_simp;first|done|exact rfl));done));clear hK K))
    refine wpQuiet_nil ?_;intro wz hC;have HO:=aA (HOUT.out _ hC);clear hC HIN HOUT C;obtain hb1:=HO.out;have HBX:=aA hb1;clear hb1 HK HO;have tok1:True:=trivial
    go_wp2_with (first
     |(have _t:=tok1;clear _t tok1;at_builtin;refine fW (B:=W.heap.size) (v:= .slice none 0 0) (ts:=[]) (us:=([]:List Fi)) (ad:=none) (n:=0) (c:=0) rfl (.tmp 23) (.tmp 26) rfl rfl (OwnFi.nil _ _) HBX.out.size rfl rfl (Or.inl ⟨rfl,rfl⟩) (by simp only [List.length_nil];omega) ?_;intro y1 w6 ho6 hg6;rw [List.nil_append] at ho6;have HB6:Hid (Below W.heap.size W w6):=HBX.out.grown hg6 HBX.out.size (fun k hk=>by cases hk);have HO6:=aA ho6;obtain ⟨b1,d1,e6⟩:=ho6.form;rw [HLT.out] at e6;subst e6;clear ho6 hg6;obtain ⟨⟨l0,l1,l2⟩,_⟩:=HBK.out _ HB6.out;have HO7:Hid (OwnFi (w6.alloc (.cells #[.string x.pa,.bool x.dr,.string x.da] 45)) W.heap.size (.slice b1 0 d1) (([]:List Fi))):=bS HO6.out (aF _ _);have HB7:Hid (Below W.heap.size W (w6.alloc (.cells #[.string x.pa,.bool x.dr,.string x.da] 45))):=aB HB6.out (aF _ _);have HNW:Hid (kU (w6.alloc (.cells #[.string x.pa,.bool x.dr,.string x.da] 45)) (some ⟨w6.heap.size,0,none⟩) [x]):=Or.inr ⟨_,_,rfl,fun j u hj=>World.news_of_block (cs:= #[.string x.pa,.bool x.dr,.string x.da]) (t:=45) (fr:=(0,0)) (by show (w6.heap.push _)[_]? =_;rw [Array.getElem?_push,if_pos rfl]) j u (by simpa [cV] using hj)⟩;have tok2:True:=trivial)
     |(have _t:=tok2;clear _t tok2;at_builtin;refine fW (B:=W.heap.size) (wx:=w6.alloc (.cells #[.string x.pa,.bool x.dr,.string x.da] 45)) (v:= .slice b1 0 d1) (ts:=([]:List Fi)) (us:=[x]) (ad:=some ⟨w6.heap.size,0,none⟩) (n:=1) (c:=1) rfl (.tmp 28) (.tmp 30) rfl rfl HO7.out HB7.out.size rfl rfl HNW.out (by rw [HLT.out];omega) ?_;intro y2 w8 ho8 hg8;have HB8:Hid (Below W.heap.size W w8):=HB7.out.grown hg8 HB7.out.size (fun k hk=>(World.ownsRow.lt HO7.out k hk).1);have HO8:=aA ho8;obtain ⟨b2,d2,e8⟩:=ho8.form;rw [HL2.out] at e8;subst e8;clear ho8 hg8;have tok3:True:=trivial)
     |(have _t:=tok3;clear _t tok3;at_builtin;refine fW (B:=W.heap.size) (v:= .slice b2 (0+1) d2) (ts:=([]:List Fi)++[x]) (us:=([]:List Fi)) (ad:=none) (n:=0) (c:=0) rfl (.tmp 32) (.tmp 35) rfl rfl HO8.out HB8.out.size rfl rfl (Or.inl ⟨rfl,rfl⟩) (by rw [HL2.out];omega) ?_;intro y3 w9 ho9 hg9;have HB9:Hid (Below W.heap.size W w9):=HB8.out.grown hg9 HB8.out.size (fun k hk=>(World.ownsRow.lt HO8.out k hk).1);have HO9:=aA ho9;obtain ⟨b3,d3,e9⟩:=ho9.form;obtain ⟨n9,h9⟩:∃ n,n=(([]:List Fi)++[x]++([]:List Fi)).length:=⟨_,rfl⟩;rw [←h9] at e9;subst e9;clear h9 ho9 hg9))
    exact HQ.out _ _ _ HIN.out HO9.out HB9.out
 · clear h
   obtain ⟨g,cap,rfl,hcap,hg,_,hcells⟩:=hq;have HCE:=aA hcells;obtain ⟨pos,hpos⟩:∃ q,q=jJ ts x:=⟨_,rfl⟩;have hpl:pos≤ts.length:=hpos ▸ FS _ _;have HP1:Hid (∀ i (hi:i<ts.length),i<pos→Op.bytesLess ts[i].pa.toList x.pa.toList=true):=fun i hi q=>lL hi (hpos ▸ q)
   have HP2:Hid (∀ i (hi:i<ts.length),i=pos→Op.bytesLess ts[i].pa.toList x.pa.toList=false):=fun i hi q=>vI hi (q.trans hpos)
   have HIN:Hid (ts.take pos++[x]++ts.drop pos=cM ts x):=by
    unfold Hid cM;rw [←hpos]
    simp
   have HLT:Hid ((ts.take pos).length=pos):=by
    unfold Hid;rw [List.length_take,Nat.min_eq_left hpl]
   have HL2:Hid ((ts.take pos++[x]).length=pos+1):=by
    unfold Hid;rw [List.length_append,HLT.out];rfl
   have HLD:Hid ((ts.drop pos).length=ts.length - pos):=List.length_drop;clear hpos hcells;have hpi1:(pos:Int)≤(ts.length:Int):=by omega
   have hpi2:(pos:Int)≤(cap:Int):=by omega
   have hpi3:(ts.length:Int)≤(cap:Int):=by omega
   have hgW:g<(w.alloc (.cells #[.string x.pa,.bool x.dr,.string x.da] 45)).heap.size:=by simp;omega
   have HF1:Hid (∀ W2,Below (w.alloc (.cells #[.string x.pa,.bool x.dr,.string x.da] 45)).heap.size (w.alloc (.cells #[.string x.pa,.bool x.dr,.string x.da] 45)) W2→kU W2 (some ⟨g,0,none⟩) (ts.take pos)):=fun W2 hb=>OU (fun j u hj=>((aB HB0.out hb).cell (p:=⟨g,j,none⟩) hg).trans (HCE.out j u hj)) pos
   have HF3:Hid (∀ W2,Below (w.alloc (.cells #[.string x.pa,.bool x.dr,.string x.da] 45)).heap.size (w.alloc (.cells #[.string x.pa,.bool x.dr,.string x.da] 45)) W2→kU W2 (some ⟨g,pos*3,none⟩) (ts.drop pos)):=fun W2 hb=>OV (fun j u hj=>((aB HB0.out hb).cell (p:=⟨g,j,none⟩) hg).trans (HCE.out j u hj)) pos
   go_enter Tryz.func29,Tryz.ntmps29
   go_wp2_with fail
   generalize (w.alloc (.cells #[.string x.pa,.bool x.dr,.string x.da] 45))=W at*
   go_loopw [5] (fun vi wr=>∃ i:Nat,i≤pos∧vi= .int .i64 i∧Below W.heap.size W wr) (fun vi _=>ts.length - (intOf vi).toNat)
   case atStart=>exact ⟨0,Nat.zero_le _,rfl,Below.refl _ _⟩
   case round=>
    obtain ⟨i,hi,rfl,hbw⟩:=hrel;have HB:=aA hbw;clear hbw
    by_cases hlt:i<ts.length
    · have hki:(i:Int)<(ts.length:Int):=by omega
      obtain ⟨n0,_,_⟩:=pF ts i hlt;have c0:wr.cell? ⟨g,i*3,none⟩=some (.string ts[i].pa):=((HBK.out _ HB.out).2.cell (p:=⟨g,i*3,none⟩) hg).trans (HCE.out _ _ n0);have HQ1:=aA (HP1.out i hlt);have HQ2:=aA (HP2.out i hlt);obtain ⟨⟨l0,_,_⟩,_⟩:=HBK.out _ HB.out;have hgr:g<wr.heap.size:=Nat.lt_of_lt_of_le hgW HB.out.size;have hwr:w.heap.size<wr.heap.size:=Nat.lt_of_lt_of_le hwl HB.out.size;generalize ts[i]=y at*;have HK:Hid (KeepP fun w1=>Below W.heap.size W w1∧Sc.wE w1 g (i*3) (.string y.pa)∧Sc.wE w1 w.heap.size 0 (.string x.pa)):=KeepP.and (aD W) (KeepP.and (Sc.wF _ _ _) (Sc.wF _ _ _));have HO:Hid (Below W.heap.size W wr∧Sc.wE wr g (i*3) (.string y.pa)∧Sc.wE wr w.heap.size 0 (.string x.pa)):=⟨HB.out,⟨c0,hgr⟩,⟨l0,hwr⟩⟩;clear c0 l0 n0
      by_cases hip:i=pos
      · have hls:=HQ2.out hip
        subst hip;clear HQ1 HQ2
        go_wp2_with fail
        refine aM HK (by kernel_rfl) (by kernel_rfl) (by first|exact HO.out|exact HK.out.drew HO.out) ?_;intro C HIN HOUT;clear HO
        repeat
         (with_reducible refine wpQuiet_step (fun K hK=> ?_)
          go_simp
          first
           |(refine hK _ ?_;clear hK K)
           |(apply Exists.intro;refine ⟨fun w1 hC=> ?_,hK _ ?_⟩;(focus ((first|(exact rfl)|(obtain ⟨hb1,⟨t0,_⟩,⟨t1,_⟩⟩:=HOUT.out w1 hC;clear hC;go_simp;first|done|exact rfl));done));clear hK K))
        refine wpQuiet_nil ?_;intro wz hC;have HO:=aA (HOUT.out _ hC);clear hC HIN HOUT C;obtain ⟨hb1,⟨t0,_⟩,⟨t1,_⟩⟩:=HO.out;have HBX:=aA hb1;clear hb1 t0 t1 HK HO hls;have tok1:True:=trivial
        go_wp2_with (first
         |(have _t:=tok1;clear _t tok1;at_builtin;refine fW (B:=W.heap.size) (v:= .slice none 0 0) (ts:=[]) (us:=ts.take i) (ad:=some ⟨g,0,none⟩) (n:=i) (c:=cap) rfl (.tmp 23) (.tmp 26) rfl rfl (OwnFi.nil _ _) HBX.out.size rfl HLT.out (HF1.out _ HBX.out) (by simp only [List.length_nil];omega) ?_;intro y1 w6 ho6 hg6;rw [List.nil_append] at ho6;have HB6:Hid (Below W.heap.size W w6):=HBX.out.grown hg6 HBX.out.size (fun k hk=>by cases hk);have HO6:=aA ho6;obtain ⟨b1,d1,e6⟩:=ho6.form;rw [HLT.out] at e6;subst e6;clear ho6 hg6;obtain ⟨⟨l0,l1,l2⟩,_⟩:=HBK.out _ HB6.out;have HO7:Hid (OwnFi (w6.alloc (.cells #[.string x.pa,.bool x.dr,.string x.da] 45)) W.heap.size (.slice b1 i d1) (ts.take i)):=bS HO6.out (aF _ _);have HB7:Hid (Below W.heap.size W (w6.alloc (.cells #[.string x.pa,.bool x.dr,.string x.da] 45))):=aB HB6.out (aF _ _);have HNW:Hid (kU (w6.alloc (.cells #[.string x.pa,.bool x.dr,.string x.da] 45)) (some ⟨w6.heap.size,0,none⟩) [x]):=Or.inr ⟨_,_,rfl,fun j u hj=>World.news_of_block (cs:= #[.string x.pa,.bool x.dr,.string x.da]) (t:=45) (fr:=(0,0)) (by show (w6.heap.push _)[_]? =_;rw [Array.getElem?_push,if_pos rfl]) j u (by simpa [cV] using hj)⟩;have tok2:True:=trivial)
         |(have _t:=tok2;clear _t tok2;at_builtin;refine fW (B:=W.heap.size) (wx:=w6.alloc (.cells #[.string x.pa,.bool x.dr,.string x.da] 45)) (v:= .slice b1 i d1) (ts:=ts.take i) (us:=[x]) (ad:=some ⟨w6.heap.size,0,none⟩) (n:=1) (c:=1) rfl (.tmp 28) (.tmp 30) rfl rfl HO7.out HB7.out.size rfl rfl HNW.out (by rw [HLT.out];omega) ?_;intro y2 w8 ho8 hg8;have HB8:Hid (Below W.heap.size W w8):=HB7.out.grown hg8 HB7.out.size (fun k hk=>(World.ownsRow.lt HO7.out k hk).1);have HO8:=aA ho8;obtain ⟨b2,d2,e8⟩:=ho8.form;rw [HL2.out] at e8;subst e8;clear ho8 hg8;have tok3:True:=trivial)
         |(have _t:=tok3;clear _t tok3;at_builtin;refine fW (B:=W.heap.size) (v:= .slice b2 (i+1) d2) (ts:=ts.take i++[x]) (us:=ts.drop i) (ad:=some ⟨g,i*3,none⟩) (n:=(ts.length - i)) (c:=(cap - i)) rfl (.tmp 32) (.tmp 35) rfl rfl HO8.out HB8.out.size rfl HLD.out (HF3.out _ HB8.out) (by rw [HL2.out];omega) ?_;intro y3 w9 ho9 hg9;have HB9:Hid (Below W.heap.size W w9):=HB8.out.grown hg9 HB8.out.size (fun k hk=>(World.ownsRow.lt HO8.out k hk).1);have HO9:=aA ho9;obtain ⟨b3,d3,e9⟩:=ho9.form;obtain ⟨n9,h9⟩:∃ n,n=(ts.take i++[x]++ts.drop i).length:=⟨_,rfl⟩;rw [←h9] at e9;subst e9;clear h9 ho9 hg9))
        exact HQ.out _ _ _ HIN.out HO9.out HB9.out
      · have hip2:i<pos:=by omega
        have hls:=HQ1.out hip2;clear HQ1 HQ2
        go_wp2_with fail
        refine aM HK (by kernel_rfl) (by kernel_rfl) (by first|exact HO.out|exact HK.out.drew HO.out) ?_;intro C HIN HOUT;clear HO
        repeat
         (with_reducible refine wpQuiet_step (fun K hK=> ?_)
          go_simp
          first
           |(refine hK _ ?_;clear hK K)
           |(apply Exists.intro;refine ⟨fun w1 hC=> ?_,hK _ ?_⟩;(focus ((first|(exact rfl)|(obtain ⟨hb1,⟨t0,_⟩,⟨t1,_⟩⟩:=HOUT.out w1 hC;clear hC;go_simp;first|done|exact rfl));done));clear hK K))
        refine wpQuiet_nil ?_;intro wz hC;have HO:=aA (HOUT.out _ hC);clear hC HIN HOUT C;obtain ⟨hb1,⟨t0,_⟩,⟨t1,_⟩⟩:=HO.out
        go_wp2_with fail
        exact ⟨⟨i+1,by omega,by go_num,hb1⟩,by simp [intOf];omega⟩
    · have hki:¬ ((i:Int)<(ts.length:Int)):=by omega
      have hip:i=pos:=by omega
      subst hip;have HK:Hid (KeepP fun w1=>Below W.heap.size W w1):=aD W;have HO:Hid (Below W.heap.size W wr):=HB.out;have HD0:Hid (ts.drop i=[]):=List.drop_of_length_le (by omega);have hd0:decide ((i:Int)<(ts.length:Int))=false:=decide_eq_false hki;have hd1:decide (i<ts.length)=false:=decide_eq_false hlt
      go_wp2_with fail
      refine aM HK (by kernel_rfl) (by kernel_rfl) (by first|exact HO.out|exact HK.out.drew HO.out) ?_;intro C HIN HOUT;clear HO
      repeat
       (with_reducible refine wpQuiet_step (fun K hK=> ?_)
        go_simp
        first
         |(refine hK _ ?_;clear hK K)
         |(apply Exists.intro;refine ⟨fun w1 hC=> ?_,hK _ ?_⟩;(focus ((first|(exact rfl)|(obtain hb1:=HOUT.out w1 hC;clear hC;go_simp;first|done|exact rfl));done));clear hK K))
      refine wpQuiet_nil ?_;intro wz hC;have HO:=aA (HOUT.out _ hC);clear hC HIN HOUT C;obtain hb1:=HO.out;have HBX:=aA hb1;clear hb1 HK HO hki hlt hd0 hd1
      by_cases hci:cap=i
      · subst hci
        have HLZ:Hid ((ts.drop cap).length=0):=by unfold Hid;rw [HD0.out];rfl
        have tok1:True:=trivial
        go_wp2_with (first
         |(have _t:=tok1;clear _t tok1;at_builtin;refine fW (B:=W.heap.size) (v:= .slice none 0 0) (ts:=[]) (us:=ts.take cap) (ad:=some ⟨g,0,none⟩) (n:=cap) (c:=cap) rfl (.tmp 23) (.tmp 26) rfl rfl (OwnFi.nil _ _) HBX.out.size rfl HLT.out (HF1.out _ HBX.out) (by simp only [List.length_nil];omega) ?_;intro y1 w6 ho6 hg6;rw [List.nil_append] at ho6;have HB6:Hid (Below W.heap.size W w6):=HBX.out.grown hg6 HBX.out.size (fun k hk=>by cases hk);have HO6:=aA ho6;obtain ⟨b1,d1,e6⟩:=ho6.form;rw [HLT.out] at e6;subst e6;clear ho6 hg6;obtain ⟨⟨l0,l1,l2⟩,_⟩:=HBK.out _ HB6.out;have HO7:Hid (OwnFi (w6.alloc (.cells #[.string x.pa,.bool x.dr,.string x.da] 45)) W.heap.size (.slice b1 cap d1) (ts.take cap)):=bS HO6.out (aF _ _);have HB7:Hid (Below W.heap.size W (w6.alloc (.cells #[.string x.pa,.bool x.dr,.string x.da] 45))):=aB HB6.out (aF _ _);have HNW:Hid (kU (w6.alloc (.cells #[.string x.pa,.bool x.dr,.string x.da] 45)) (some ⟨w6.heap.size,0,none⟩) [x]):=Or.inr ⟨_,_,rfl,fun j u hj=>World.news_of_block (cs:= #[.string x.pa,.bool x.dr,.string x.da]) (t:=45) (fr:=(0,0)) (by show (w6.heap.push _)[_]? =_;rw [Array.getElem?_push,if_pos rfl]) j u (by simpa [cV] using hj)⟩;have tok2:True:=trivial)
         |(have _t:=tok2;clear _t tok2;at_builtin;refine fW (B:=W.heap.size) (wx:=w6.alloc (.cells #[.string x.pa,.bool x.dr,.string x.da] 45)) (v:= .slice b1 cap d1) (ts:=ts.take cap) (us:=[x]) (ad:=some ⟨w6.heap.size,0,none⟩) (n:=1) (c:=1) rfl (.tmp 28) (.tmp 30) rfl rfl HO7.out HB7.out.size rfl rfl HNW.out (by rw [HLT.out];omega) ?_;intro y2 w8 ho8 hg8;have HB8:Hid (Below W.heap.size W w8):=HB7.out.grown hg8 HB7.out.size (fun k hk=>(World.ownsRow.lt HO7.out k hk).1);have HO8:=aA ho8;obtain ⟨b2,d2,e8⟩:=ho8.form;rw [HL2.out] at e8;subst e8;clear ho8 hg8;have tok3:True:=trivial)
         |(have _t:=tok3;clear _t tok3;at_builtin;refine fW (B:=W.heap.size) (v:= .slice b2 (cap+1) d2) (ts:=ts.take cap++[x]) (us:=ts.drop cap) (ad:=some ⟨g,0,none⟩) (n:=0) (c:=0) rfl (.tmp 32) (.tmp 35) rfl rfl HO8.out HB8.out.size rfl HLZ.out (zA HD0.out) (by rw [HL2.out];omega) ?_;intro y3 w9 ho9 hg9;have HB9:Hid (Below W.heap.size W w9):=HB8.out.grown hg9 HB8.out.size (fun k hk=>(World.ownsRow.lt HO8.out k hk).1);have HO9:=aA ho9;obtain ⟨b3,d3,e9⟩:=ho9.form;obtain ⟨n9,h9⟩:∃ n,n=(ts.take cap++[x]++ts.drop cap).length:=⟨_,rfl⟩;rw [←h9] at e9;subst e9;clear h9 ho9 hg9))
        exact HQ.out _ _ _ HIN.out HO9.out HB9.out
      · have tok1:True:=trivial
        go_wp2_with (first
         |(have _t:=tok1;clear _t tok1;at_builtin;refine fW (B:=W.heap.size) (v:= .slice none 0 0) (ts:=[]) (us:=ts.take i) (ad:=some ⟨g,0,none⟩) (n:=i) (c:=cap) rfl (.tmp 23) (.tmp 26) rfl rfl (OwnFi.nil _ _) HBX.out.size rfl HLT.out (HF1.out _ HBX.out) (by simp only [List.length_nil];omega) ?_;intro y1 w6 ho6 hg6;rw [List.nil_append] at ho6;have HB6:Hid (Below W.heap.size W w6):=HBX.out.grown hg6 HBX.out.size (fun k hk=>by cases hk);have HO6:=aA ho6;obtain ⟨b1,d1,e6⟩:=ho6.form;rw [HLT.out] at e6;subst e6;clear ho6 hg6;obtain ⟨⟨l0,l1,l2⟩,_⟩:=HBK.out _ HB6.out;have HO7:Hid (OwnFi (w6.alloc (.cells #[.string x.pa,.bool x.dr,.string x.da] 45)) W.heap.size (.slice b1 i d1) (ts.take i)):=bS HO6.out (aF _ _);have HB7:Hid (Below W.heap.size W (w6.alloc (.cells #[.string x.pa,.bool x.dr,.string x.da] 45))):=aB HB6.out (aF _ _);have HNW:Hid (kU (w6.alloc (.cells #[.string x.pa,.bool x.dr,.string x.da] 45)) (some ⟨w6.heap.size,0,none⟩) [x]):=Or.inr ⟨_,_,rfl,fun j u hj=>World.news_of_block (cs:= #[.string x.pa,.bool x.dr,.string x.da]) (t:=45) (fr:=(0,0)) (by show (w6.heap.push _)[_]? =_;rw [Array.getElem?_push,if_pos rfl]) j u (by simpa [cV] using hj)⟩;have tok2:True:=trivial)
         |(have _t:=tok2;clear _t tok2;at_builtin;refine fW (B:=W.heap.size) (wx:=w6.alloc (.cells #[.string x.pa,.bool x.dr,.string x.da] 45)) (v:= .slice b1 i d1) (ts:=ts.take i) (us:=[x]) (ad:=some ⟨w6.heap.size,0,none⟩) (n:=1) (c:=1) rfl (.tmp 28) (.tmp 30) rfl rfl HO7.out HB7.out.size rfl rfl HNW.out (by rw [HLT.out];omega) ?_;intro y2 w8 ho8 hg8;have HB8:Hid (Below W.heap.size W w8):=HB7.out.grown hg8 HB7.out.size (fun k hk=>(World.ownsRow.lt HO7.out k hk).1);have HO8:=aA ho8;obtain ⟨b2,d2,e8⟩:=ho8.form;rw [HL2.out] at e8;subst e8;clear ho8 hg8;have tok3:True:=trivial)
         |(have _t:=tok3;clear _t tok3;at_builtin;refine fW (B:=W.heap.size) (v:= .slice b2 (i+1) d2) (ts:=ts.take i++[x]) (us:=ts.drop i) (ad:=some ⟨g,i*3,none⟩) (n:=(ts.length - i)) (c:=(cap - i)) rfl (.tmp 32) (.tmp 35) rfl rfl HO8.out HB8.out.size rfl HLD.out (zA HD0.out) (by rw [HL2.out];omega) ?_;intro y3 w9 ho9 hg9;have HB9:Hid (Below W.heap.size W w9):=HB8.out.grown hg9 HB8.out.size (fun k hk=>(World.ownsRow.lt HO8.out k hk).1);have HO9:=aA ho9;obtain ⟨b3,d3,e9⟩:=ho9.form;obtain ⟨n9,h9⟩:∃ n,n=(ts.take i++[x]++ts.drop i).length:=⟨_,rfl⟩;rw [←h9] at e9;subst e9;clear h9 ho9 hg9))
        exact HQ.out _ _ _ HIN.out HO9.out HB9.out
def sK (w:World) (g o:Nat) (x:Fi):Prop:=(w.cell? ⟨g,o,none⟩=some (.string x.pa)∧w.cell? ⟨g,o+1,none⟩=some (.bool x.dr)∧w.cell? ⟨g,o+2,none⟩=some (.string x.da))∧g<w.heap.size
theorem vS (g o:Nat) (x:Fi):KeepP fun w=>sK w g o x:=fun _ _ h hb=>⟨⟨(hb.cell (p:=⟨g,o,none⟩) h.2).trans h.1.1,(hb.cell (p:=⟨g,o+1,none⟩) h.2).trans h.1.2.1,(hb.cell (p:=⟨g,o+2,none⟩) h.2).trans h.1.2.2⟩,Nat.lt_of_lt_of_le h.2 hb.size⟩
def FlsAt (w:World) (v:Value) (fs:List Fi):Prop:=∃ a c,v= .slice a fs.length c∧fs.length≤c∧∀ i (hi:i<fs.length),∃ g o,a=some ⟨g,o,none⟩∧sK w g (o+i*3) fs[i]
theorem FlsAt.below {w w':World} {v:Value} {fs:List Fi} (h:FlsAt w v fs) (hb:Below w.heap.size w w'):FlsAt w' v fs:=by
 obtain ⟨a,c,e,hc,hf⟩:=h;refine ⟨a,c,e,hc,fun i hi=> ?_⟩;obtain ⟨g,o,e,h⟩:=hf i hi;exact ⟨g,o,e,vS _ _ _ _ _ h hb⟩
set_option maxHeartbeats 2000000 in
theorem OW (n:Nat) (hn:1≤n) (l Bm:Nat) {w:World} {a:Option Addr} {c:Nat} {ts:List Fi} (hts:∀ i (hi:i<ts.length),∃ g o,a=some ⟨g,o,none⟩∧sK w g (o+i*3) ts[i]) (hz:ts.length≤1000000) (J:List Fi→World→Prop)
 (hJb:∀ V W1,J V W1→Below w.heap.size w W1)
 (hY:∀ pre x W,J pre W→pre.length<ts.length→YieldAt Fence.wide (n - 1) Tryz.prog l #[gH x] W fun e W'=>e= .returned (.bool true)∧J (pre++[x]) W'∧KeepsWalks W W')
 (W:World) (hJ:AbidesFrom W.heap.size J) (hm:w.cell? ⟨Bm,0,none⟩=some (.slice a ts.length c)) (hBm:Bm<w.heap.size) (h0:J [] W):
 CallsIn Fence.wide n Tryz.prog 85 #[.func (.yield l) #[] #[],.pointer (some ⟨Bm,0,none⟩)] W fun e W'=>(∃ v,e= .returned v)∧∃ V:List Fi,V=ts∧J V W':=by
 refine callsIn_of_wp Tryz.func85 rfl trivial ?_ rfl;simp only [Tryz.ntmps85,List.size_toArray,List.length_cons,List.length_nil,Nat.reduceAdd,Nat.reduceSub,Array.replicate_succ,Array.replicate_zero,List.push_toArray,List.append_toArray,List.nil_append,List.cons_append];have hm0:W.cell? ⟨Bm,0,none⟩=some (.slice a ts.length c):=((hJb _ _ h0).cell (p:=⟨Bm,0,none⟩) hBm).trans hm
 gi_wp2
 gi_loopw [7] (fun vi wr=>∃ k:Nat,k≤ts.length∧vi= .int .i64 k∧J (ts.take k) wr) (fun vi _=>ts.length - (intOf vi).toNat)
 case atStart=>exact ⟨0,Nat.zero_le _,rfl,by rw [List.take_zero];exact h0⟩
 case round=>
  obtain ⟨k,hk,rfl,hJs⟩:=hrel
  by_cases hlt:k<ts.length
  · have hki:(k:Int)<(ts.length:Int):=by omega
    obtain ⟨g,o,rfl,hfl⟩:=hts k hlt;obtain ⟨⟨f0,f1,f2⟩,_⟩:=vS _ _ _ _ _ hfl (hJb _ _ hJs);have hJ3:J (ts.take k) (wr.alloc (.cells #[.string ts[k].pa,.bool ts[k].dr,.string ts[k].da] 45)):=hJ _ wr _ none hJs (World.grownBy_alloc _ _ _) (fun r e=>by cases e);have hen:ts.take (k+1)=ts.take k++[ts[k]]:=List.take_succ_eq_append_getElem hlt;obtain ⟨fn,tmps,assign,body,hy,hR⟩:=hY (ts.take k) ts[k] _ hJ3 (by rw [List.length_take];omega);rw [←hen] at hR;unfold gH at hy;clear hen hfl hJs hJ3;generalize ts[k]=x at*
    gi_wp2
    refine hR.mono ?_;rintro e W3 ⟨rfl,hJ4,hk3⟩
    gi_wp2
    go_roundw
    case rel=>exact ⟨k+1,by omega,by go_num,hJ4⟩
    case measure=>simp [intOf];omega
  · obtain rfl:k=ts.length:=by omega
    rw [List.take_length] at hJs
    gi_wp2
    go_end0
    exact ⟨⟨_,rfl⟩,ts,rfl,hJs⟩
theorem zB (n:Nat) (hn:1≤n) (Bm:Nat) {w:World} {a:Option Addr} {c:Nat} {ts:List Fi} (hts:∀ i (hi:i<ts.length),∃ g o,a=some ⟨g,o,none⟩∧sK w g (o+i*3) ts[i]) (hz:ts.length≤1000000) (hm:w.cell? ⟨Bm,0,none⟩=some (.slice a ts.length c)) (hBm:Bm<w.heap.size):
 GQ Fence.wide n Tryz.prog 85 #[.pointer (some ⟨Bm,0,none⟩)] gH (fun V=>V=ts) ts.length w:=fun l J W _ hJ hJb hY h0=>
 OW n hn l Bm hts hz J hJb hY W hJ hm hBm h0
theorem zC (a:Option Addr) (k c:Nat) (w:World):Calls Tryz.prog 34 #[.slice a k c] w fun e w'=>e= .returned (.func (.func 85) #[] #[.pointer (some ⟨w.heap.size,0,none⟩)])∧w'=w.alloc (.cells #[.slice a k c] 33):=by
 go_enter Tryz.func34,Tryz.ntmps34
 go_wp2
 go_ret;exact ⟨rfl,rfl⟩
theorem zD {w:World} {a:Option Addr} {c:Nat} {ts:List Fi} (h:FlsAt w (.slice a ts.length c) ts) (hz:ts.length≤1000000):
 Calls Tryz.prog 23 #[.func (.func 85) #[] #[.pointer (some ⟨w.heap.size,0,none⟩)]] (w.alloc (.cells #[.slice a ts.length c] 33)) fun e w'=>∃ (v:Value) (us:List Fi),e= .returned v∧(us.Perm ts∧lE us)∧w'.ownsRow w.heap.size 45 3 v us.length (us.flatMap cV)∧Below w.heap.size w w':=by
 have hb:Below w.heap.size w (w.alloc (.cells #[.slice a ts.length c] 33)):=(Below.refl _ _).alloc (Nat.le_refl _) _;obtain ⟨a',c',e,_,hf⟩:=h.below hb;cases e;have hs:=oG 85 #[.pointer (some ⟨w.heap.size,0,none⟩)] (enters_of Tryz.func85 (by kernel_rfl) rfl) (fun V=>V=ts) ts.length hz (fun V hV=>by rw [hV];omega) _ (zB 4 (by decide) w.heap.size hf hz (by rw [World.cell?_alloc_new];rfl) (by simp));refine hs.mono ?_;rintro e w' ⟨v,V,us,rfl,rfl,hp,ho,hbb⟩;have hsz:w.heap.size≤(w.alloc (.cells #[.slice a V.length c] 33)).heap.size:=by simp
 exact ⟨v,us,rfl,hp,⟨ho.1,ho.2.imp id fun ⟨g,cap,cur,h1,h2,r⟩=>⟨g,cap,cur,h1,Nat.le_trans hsz h2,r⟩⟩,hb.trans (hbb.mono hsz)⟩
theorem OwnFi.at {w:World} {B:Nat} {v:Value} {ts:List Fi} (h:OwnFi w B v ts):FlsAt w v ts:=by
 rcases GA h with ⟨rfl,rfl⟩|⟨g,cap,rfl,hc,hg,_,hcell⟩
 · exact ⟨none,0,rfl,Nat.le_refl _,fun i hi=>by cases hi⟩
 · refine ⟨_,cap,rfl,hc,fun i hi=>⟨g,0,rfl,⟨?_,?_,?_⟩,hg⟩⟩
   · rw [Nat.zero_add];exact hcell _ _ (pF ts i hi).1
   · rw [Nat.zero_add];exact hcell _ _ (pF ts i hi).2.1
   · rw [Nat.zero_add];exact hcell _ _ (pF ts i hi).2.2
def TO:Fi:=⟨⟨#[]⟩,false,⟨#[]⟩⟩
def rN (L:List Fi) (s:ByteArray):Option Fi:=L.find? fun x=>decide (x.pa=s)
def cW (L:List Fi) (s:ByteArray):Fi:=(rN L s).getD TO
theorem KB {L:List Fi} {s:ByteArray} {x:Fi} (h:rN L s=some x):x ∈ L∧x.pa=s:=⟨List.mem_of_find?_eq_some h,by have:=List.find?_some (p:=fun y:Fi=>decide (y.pa=s)) h;exact of_decide_eq_true this⟩
theorem KC {L:List Fi} {s:ByteArray} (h:rN L s=none):∀ x ∈ L,x.pa≠s:=fun x hx e=>by
 have:=List.find?_eq_none.1 h x hx
 rw [decide_eq_true_eq] at this;exact this e
theorem pG (w:World):(zeroValue 45).run Tryz.prog w= .ok (.agg #[.string ⟨#[]⟩,.bool false,.string ⟨#[]⟩]) w:=by kernel_rfl
theorem kL {v u:Value} {ps:List MemPlace} (h:eV v=some (.held u,ps)):v=u:=by
 unfold eV at h;injection h with h
 injection h with h _
 injection h
theorem tU {w:World} {mb n:Nat} {D:DataW Value} {L:List Fi} (h:w.ownsMap Tryz.prog 9 eV mb n D) (hD:MapF D L) (s:ByteArray) (hs:s.size≤maxLen):
 (Instr.lookup 74 (.map (some mb)) (.string s) true).run Tryz.prog w= .ok (.tuple #[.agg #[.string (cW L s).pa,.bool (cW L s).dr,.string (cW L s).da],.bool (rN L s).isSome]) w∧
 (Instr.lookup 74 (.map (some mb)) (.string s) false).run Tryz.prog w= .ok (.agg #[.string (cW L s).pa,.bool (cW L s).dr,.string (cW L s).da]) w:=by
 unfold cW;cases hf:rN L s with
 |some x=>
  obtain ⟨hx,rfl⟩:=KB hf;have hm:=hD.has x hx
  constructor
  · obtain ⟨v,ps,h1,h2⟩:=h.look_ok jL Tryz.underlying74 (pG w) (zd:= .held (.agg #[.string ⟨#[]⟩,.bool false,.string ⟨#[]⟩])) (zp:=[]) rfl (nG hs)
    rw [hm.2] at h2;rw [hm.1] at h1;rw [h1,kL h2];rfl
  · obtain ⟨v,ps,h1,h2⟩:=h.lookup jL Tryz.underlying74 (pG w) (zd:= .held (.agg #[.string ⟨#[]⟩,.bool false,.string ⟨#[]⟩])) (zp:=[]) rfl (nG hs)
    rw [hm.2] at h2;rw [h1,kL h2];rfl
 |none=>
  have hm:Maps.has D (eN s)=false:=by
   rw [Bool.eq_false_iff];intro q;obtain ⟨x,hx,e⟩:=hD.keys _ q;exact KC hf x hx (pI e).symm
  constructor
  · obtain ⟨v,ps,h1,h2⟩:=h.look_ok jL Tryz.underlying74 (pG w) (zd:= .held (.agg #[.string ⟨#[]⟩,.bool false,.string ⟨#[]⟩])) (zp:=[]) rfl (nG hs)
    rw [atKey_of_not_has hm] at h2;rw [hm] at h1;rw [h1,kL h2];rfl
  · obtain ⟨v,ps,h1,h2⟩:=h.lookup jL Tryz.underlying74 (pG w) (zd:= .held (.agg #[.string ⟨#[]⟩,.bool false,.string ⟨#[]⟩])) (zp:=[]) rfl (nG hs)
    rw [atKey_of_not_has hm] at h2;rw [h1,kL h2];rfl
theorem GB (w:World) (p:ByteArray) (d:Bool) (t:ByteArray):(Instr.field 45 (.agg #[.string p,.bool d,.string t]) 2).run Tryz.prog w= .ok (.string t) w:=by kernel_rfl
set_option maxHeartbeats 3200000 in
theorem zF {ts:List Fi} {v:Value} {w:World} (h:FlsAt w v ts) (hz:ts.length≤1000000) (hs:∀ x ∈ ts,x.pa.size≤maxLen):
 Calls Tryz.prog 86 #[v] w fun e w'=>e= .returned (.map (some w.heap.size))∧(∃ n D,w'.ownsMap Tryz.prog 9 eV w.heap.size n D∧MapF D (ts.foldl bH []))∧Below w.heap.size w w':=by
 have hmm:= @run_makeMap Tryz.prog;obtain ⟨a,c,rfl,_,hf⟩:=h
 have HF:Hid (∀ W,Below w.heap.size w W→∀ i (hi:i<ts.length),∃ g o,a=some ⟨g,o,none⟩∧sK W g (o+i*3) ts[i]):=fun W hb i hi=>by
  obtain ⟨g,o,e,hx⟩:=hf i hi;exact ⟨g,o,e,vS _ _ _ _ _ hx hb⟩
 have HS:=aA hs;have HM0:Hid (∃ n D,n≤0∧(w.alloc (.map #[] 0)).ownsMap Tryz.prog 9 eV w.heap.size n D∧MapF D ((ts.take 0).foldl bH [])):=⟨0,_,Nat.le_refl _,World.ownsMap_made (H:=Value) w Tryz.prog 9 eV,MapF.new⟩;have HB0:Hid (Below w.heap.size w (w.alloc (.map #[] 0))):=(Below.refl _ _).alloc (Nat.le_refl _) _;clear hf hs
 go_enter Tryz.func86,Tryz.ntmps86
 go_wp2_with fail
 go_loopw [9] (fun vi wr=>∃ k:Nat,k≤ts.length∧vi= .int .i64 k∧Hid (∃ n D,n≤k∧wr.ownsMap Tryz.prog 9 eV w.heap.size n D∧MapF D ((ts.take k).foldl bH []))∧Below w.heap.size w wr) (fun vi _=>ts.length - (intOf vi).toNat)
 case atStart=>exact ⟨0,Nat.zero_le _,rfl,HM0,HB0.out⟩
 case round=>
  obtain ⟨k,hk,rfl,HM,hb⟩:=hrel
  by_cases hlt:k<ts.length
  · have hki:(k:Int)<(ts.length:Int):=by omega
    obtain ⟨g,o,rfl,hfl⟩:=HF.out wr hb k hlt;have hsx:=HS.out _ (List.getElem_mem hlt);obtain ⟨n,D,hn,hown,hD⟩:=HM.out
    have hen:(ts.take (k+1)).foldl bH []=bH ((ts.take k).foldl bH []) ts[k]:=by
     rw [List.take_succ_eq_append_getElem hlt,List.foldl_append];rfl
    have hD2:=hD.put ts[k];rw [←hen] at hD2;obtain ⟨⟨f0,f1,f2⟩,_⟩:=hfl;clear HM hD hen HF HS HM0;generalize ts[k]=x at*;obtain ⟨W,hW⟩:∃ W,W=wr.alloc (.cells #[.string x.pa,.bool x.dr,.string x.da] 45):=⟨_,rfl⟩;have hbW:Below wr.heap.size wr W:=by rw [hW];exact aF _ _
    obtain ⟨w2,hup,ho2,hg2⟩:=World.ownsMap.update (t:=74) (e:=45) (bV hown hbW) jL Tryz.underlying74 (by unfold maxLen;omega) (key:= .string x.pa) (val:=gH x) (nG hsx) rfl;unfold gH at hup;have HX:Hid (∃ n D,n≤k+1∧w2.ownsMap Tryz.prog 9 eV w.heap.size n D∧MapF D ((ts.take (k+1)).foldl bH [])):=⟨n+1,_,by omega,ho2,hD2⟩;have HB2:Hid (Below w.heap.size w w2):=(aB hb hbW).grown hg2 (aB hb hbW).size (fun j e=>by cases e;exact Nat.le_refl _);clear ho2 hg2 hown hsx hD2 hbW hb;subst hW
    go_wp2_with fail
    exact ⟨⟨k+1,by omega,by go_num,HX,HB2.out⟩,by simp [intOf];omega⟩
  · obtain rfl:k=ts.length:=by omega
    have HR:Hid (∃ n D,wr.ownsMap Tryz.prog 9 eV w.heap.size n D∧MapF D (ts.foldl bH [])):=by
     obtain ⟨n,D,_,h1,h2⟩:=HM.out;rw [List.take_length] at h2;exact ⟨n,D,h1,h2⟩
    clear HM HM0
    go_wp2_with fail
    go_ret;exact ⟨rfl,HR.out,hb⟩
theorem tV (w:World) (A B C:Obj):(((w.alloc A).alloc B).alloc C).drew.heap[w.heap.size+1]? =some B∧(((w.alloc A).alloc B).alloc C).drew.heap[w.heap.size+1+1]? =some C∧Below w.heap.size w (((w.alloc A).alloc B).alloc C).drew:=by
 have e1:(w.alloc A).heap.size=w.heap.size+1:=by simp
 have e2:((w.alloc A).alloc B).heap.size=w.heap.size+1+1:=by simp
 refine ⟨?_,?_,((((Below.refl _ w).alloc (Nat.le_refl _) _).alloc (by simp) _).alloc (by simp;omega) _).drew⟩
 · show (((w.alloc A).alloc B).alloc C).heap[w.heap.size+1]? =some B
   rw [Below.heap_alloc _ _ _ (by omega),←e1];exact World.alloc_heap_new (w.alloc A) B
 · show (((w.alloc A).alloc B).alloc C).heap[w.heap.size+1+1]? =some C
   rw [←e2];exact World.alloc_heap_new ((w.alloc A).alloc B) C
theorem TQ (W:World):(Instr.makeSlice 25 (.int .i64 1) (.int .i64 1)).run Tryz.prog W= .ok (.slice (some ⟨W.heap.size,0,none⟩) 1 1) (W.alloc (.cells #[.string ⟨#[]⟩,.int .i64 0,.int .i64 0,.int .i64 0,.slice none 0 0,.slice none 0 0] 60)):=by kernel_rfl
theorem US (W:World):(Instr.makeSlice 28 (.int .i64 1) (.int .i64 1)).run Tryz.prog W= .ok (.slice (some ⟨W.heap.size,0,none⟩) 1 1) (W.alloc (.cells #[.slice none 0 0,.string ⟨#[]⟩,.int .i64 0,.int .i64 0,.int .i64 0,.slice none 0 0,.slice none 0 0,.slice none 0 0,.int .i64 0] 56)):=by kernel_rfl
set_option maxHeartbeats 3200000 in
theorem lP (w:World):Calls Tryz.prog 33 #[] w fun e w'=>∃ g1 g2,e= .returned (.agg #[.slice none 0 0,.slice none 0 0,.slice none 0 0,.slice none 0 0,.slice (some ⟨g1,0,none⟩) 1 1,.slice (some ⟨g2,0,none⟩) 1 1,.bool false])∧
 w'.heap[g1]? =some (.cells #[.string ⟨#[]⟩,.int .i64 0,.int .i64 0,.int .i64 0,.slice none 0 0,.slice none 0 0] 60)∧w'.heap[g2]? =some (.cells #[.slice none 0 0,.string ⟨#[]⟩,.int .i64 0,.int .i64 0,.int .i64 0,.slice none 0 0,.slice none 0 0,.slice none 0 0,.int .i64 0] 56)∧w.heap.size≤g1∧w.heap.size≤g2∧Below w.heap.size w w':=by
 have m1:=TQ;have m2:=US
 go_enter Tryz.func33,Tryz.ntmps33
 go_wp2_with fail
 go_region
 · go_wp2
   refine bodyPost_ret (by simp [results,Tryz.results33,go_sem];try rfl) rfl ?_;obtain ⟨h1,h2,h3⟩:=tV w _ _ _;exact ⟨_,_,rfl,h1,h2,by omega,by omega,h3⟩
 · go_wp2
   refine bodyPost_ret (by simp [results,Tryz.results33,go_sem];try rfl) rfl ?_;obtain ⟨h1,h2,h3⟩:=tV w _ _ _;exact ⟨_,_,rfl,h2,h1,by omega,by omega,h3⟩
end Go.Proofs.YtlmpiohbmlddiaaGreatDoor
namespace Go.Proofs.YtlmpiohbmlddiaaGreatDoor
open Go.RowKit
set_option maxRecDepth 100000
theorem aZ {w:World} {N i j:Nat} {u x:Value} (h:i≠j) (hx:w.cell? ⟨N,j,none⟩=some x):(w.setCell ⟨N,i,none⟩ u).cell? ⟨N,j,none⟩=some x:=(World.cell?_setCell_other _ _ _ _ (fun e=>by cases e;exact h rfl)).trans hx
theorem OX {w:World} {N:Nat} {x0 x1 x2 x3 x4 x5 x6:Value} (j0:w.cell? ⟨N,0,none⟩=some x0) (j1:w.cell? ⟨N,1,none⟩=some x1) (j2:w.cell? ⟨N,2,none⟩=some x2) (j3:w.cell? ⟨N,3,none⟩=some x3) (j4:w.cell? ⟨N,4,none⟩=some x4) (j5:w.cell? ⟨N,5,none⟩=some x5) (j6:w.cell? ⟨N,6,none⟩=some x6) (u0 u1 u2 u3 u4 u5 u6:Value):
 (((((((w.setCell ⟨N,0,none⟩ u0).setCell ⟨N,1,none⟩ u1).setCell ⟨N,2,none⟩ u2).setCell ⟨N,3,none⟩ u3).setCell ⟨N,4,none⟩ u4).setCell ⟨N,5,none⟩ u5).setCell ⟨N,6,none⟩ u6).cell? ⟨N,0,none⟩=some u0∧(((((((w.setCell ⟨N,0,none⟩ u0).setCell ⟨N,1,none⟩ u1).setCell ⟨N,2,none⟩ u2).setCell ⟨N,3,none⟩ u3).setCell ⟨N,4,none⟩ u4).setCell ⟨N,5,none⟩ u5).setCell ⟨N,6,none⟩ u6).cell? ⟨N,1,none⟩=some u1∧(((((((w.setCell ⟨N,0,none⟩ u0).setCell ⟨N,1,none⟩ u1).setCell ⟨N,2,none⟩ u2).setCell ⟨N,3,none⟩ u3).setCell ⟨N,4,none⟩ u4).setCell ⟨N,5,none⟩ u5).setCell ⟨N,6,none⟩ u6).cell? ⟨N,2,none⟩=some u2∧(((((((w.setCell ⟨N,0,none⟩ u0).setCell ⟨N,1,none⟩ u1).setCell ⟨N,2,none⟩ u2).setCell ⟨N,3,none⟩ u3).setCell ⟨N,4,none⟩ u4).setCell ⟨N,5,none⟩ u5).setCell ⟨N,6,none⟩ u6).cell? ⟨N,3,none⟩=some u3∧(((((((w.setCell ⟨N,0,none⟩ u0).setCell ⟨N,1,none⟩ u1).setCell ⟨N,2,none⟩ u2).setCell ⟨N,3,none⟩ u3).setCell ⟨N,4,none⟩ u4).setCell ⟨N,5,none⟩ u5).setCell ⟨N,6,none⟩ u6).cell? ⟨N,4,none⟩=some u4∧(((((((w.setCell ⟨N,0,none⟩ u0).setCell ⟨N,1,none⟩ u1).setCell ⟨N,2,none⟩ u2).setCell ⟨N,3,none⟩ u3).setCell ⟨N,4,none⟩ u4).setCell ⟨N,5,none⟩ u5).setCell ⟨N,6,none⟩ u6).cell? ⟨N,5,none⟩=some u5∧(((((((w.setCell ⟨N,0,none⟩ u0).setCell ⟨N,1,none⟩ u1).setCell ⟨N,2,none⟩ u2).setCell ⟨N,3,none⟩ u3).setCell ⟨N,4,none⟩ u4).setCell ⟨N,5,none⟩ u5).setCell ⟨N,6,none⟩ u6).cell? ⟨N,6,none⟩=some u6:=by
 exact ⟨aZ (by decide) (aZ (by decide) (aZ (by decide) (aZ (by decide) (aZ (by decide) (aZ (by decide) (World.cell?_setCell_same _ _ _ (j0))))))),aZ (by decide) (aZ (by decide) (aZ (by decide) (aZ (by decide) (aZ (by decide) (World.cell?_setCell_same _ _ _ (aZ (by decide) (j1))))))),aZ (by decide) (aZ (by decide) (aZ (by decide) (aZ (by decide) (World.cell?_setCell_same _ _ _ (aZ (by decide) (aZ (by decide) (j2))))))),aZ (by decide) (aZ (by decide) (aZ (by decide) (World.cell?_setCell_same _ _ _ (aZ (by decide) (aZ (by decide) (aZ (by decide) (j3))))))),aZ (by decide) (aZ (by decide) (World.cell?_setCell_same _ _ _ (aZ (by decide) (aZ (by decide) (aZ (by decide) (aZ (by decide) (j4))))))),aZ (by decide) (World.cell?_setCell_same _ _ _ (aZ (by decide) (aZ (by decide) (aZ (by decide) (aZ (by decide) (aZ (by decide) (j5))))))),World.cell?_setCell_same _ _ _ (aZ (by decide) (aZ (by decide) (aZ (by decide) (aZ (by decide) (aZ (by decide) (aZ (by decide) (j6)))))))⟩
theorem dN {w w':World} {N B:Nat} {u0 u1 u2 u3 u4 u5 u6:Value} (hN:B≤N) (h:Below B w w'):Below B w (((((((w'.setCell ⟨N,0,none⟩ u0).setCell ⟨N,1,none⟩ u1).setCell ⟨N,2,none⟩ u2).setCell ⟨N,3,none⟩ u3).setCell ⟨N,4,none⟩ u4).setCell ⟨N,5,none⟩ u5).setCell ⟨N,6,none⟩ u6):=
 (((((((h.setCell (p:=⟨N,0,none⟩) hN _).setCell (p:=⟨N,1,none⟩) hN _).setCell (p:=⟨N,2,none⟩) hN _).setCell (p:=⟨N,3,none⟩) hN _).setCell (p:=⟨N,4,none⟩) hN _).setCell (p:=⟨N,5,none⟩) hN _).setCell (p:=⟨N,6,none⟩) hN _)
theorem UT {w:World} {N g:Nat} {u0 u1 u2 u3 u4 u5 u6:Value} (h:g≠N):(((((((w.setCell ⟨N,0,none⟩ u0).setCell ⟨N,1,none⟩ u1).setCell ⟨N,2,none⟩ u2).setCell ⟨N,3,none⟩ u3).setCell ⟨N,4,none⟩ u4).setCell ⟨N,5,none⟩ u5).setCell ⟨N,6,none⟩ u6).heap[g]? =w.heap[g]? :=
 (Below.heap_setCell _ _ _ _ h).trans ((Below.heap_setCell _ _ _ _ h).trans ((Below.heap_setCell _ _ _ _ h).trans ((Below.heap_setCell _ _ _ _ h).trans ((Below.heap_setCell _ _ _ _ h).trans ((Below.heap_setCell _ _ _ _ h).trans ((Below.heap_setCell _ _ _ _ h)))))))
def jnT (ws:List Sc.Bs):ByteArray:=⟨(Lib.join ws [32]).toArray⟩
def UU (q:Option ByteArray) (n:ByteArray) (ws:List Sc.Bs):Int:=if cF q n=true then (if VD (SS (jnT ws))=0∧cG ((UH (SS (jnT ws))).map spR)=true then 0 else 21) else 23
def zG:List Sc.Bs→Sc.Bs→Int
 |[],_=> -1
 |x::X,s=>if s=x then 0 else if zG X s= -1 then -1 else zG X s+1
def TR (ln:List Sc.Bs):Dp:=⟨Sc.ba (ln.getD 1 []),(UH (SS (jnT (ln.drop 2)))).map spR⟩
def kV (X:List Sc.Bs):Nat→List (List Dp)→List (List Sc.Bs)→Int×List (List Dp)
 |_,acc,[]=>(0,acc)
 |a,acc,ln::r=>
  if ln.length<3 then (22,[]) else
  if zG X (ln.getD 0 [])<(a:Int) then (22,[]) else
  if UU (dD (acc.getD (zG X (ln.getD 0 [])).toNat [])) (Sc.ba (ln.getD 1 [])) (ln.drop 2)=0 then
   kV X (zG X (ln.getD 0 [])).toNat (acc.set (zG X (ln.getD 0 [])).toNat (acc.getD (zG X (ln.getD 0 [])).toNat []++[TR ln])) r
  else (UU (dD (acc.getD (zG X (ln.getD 0 [])).toNat [])) (Sc.ba (ln.getD 1 [])) (ln.drop 2),[])
def RT (ws:List Sc.Bs):Int:=if ws.head? =some [112,97,99,107,97,103,101]∧ws.length=3 then (if Sc.aH (ws.getD 1 [])=true then (if okP (Sc.ba (ws.getD 2 []))=true then 0 else 20) else 23) else 22
def pkW:List Sc.Bs:=[[110,101,101,100,115],[98,101,115,105,100,101],[108,105,107,101,115]]
def OY:List (List Sc.Bs)→Int
 |[]=>22
 |h::r=>if RT h=0 then (kV pkW 0 [[],[],[]] r).1 else RT h
def OZ:List (List Sc.Bs)→Pg
 |[]=>⟨⟨#[]⟩,0,0,0,[],[],[]⟩
 |h::r=>⟨Sc.ba (h.getD 1 []),BD (Sc.ba (h.getD 2 [])),BE (Sc.ba (h.getD 2 [])),BF (Sc.ba (h.getD 2 [])),(kV pkW 0 [[],[],[]] r).2.getD 0 [],(kV pkW 0 [[],[],[]] r).2.getD 1 [],(kV pkW 0 [[],[],[]] r).2.getD 2 []⟩
def OwnP (w:World) (B:Nat) (P:Pg) (v1 v2 v3:Value):Prop:=∃ q1 q2 q3,(OwnD w B v1 q1∧q1.map (·.1)=P.d)∧(OwnD w B v2 q2∧q2.map (·.1)=P.p)∧(OwnD w B v3 q3∧q3.map (·.1)=P.o)
theorem OwnP.below {w w':World} {B:Nat} {P:Pg} {v1 v2 v3:Value} (h:OwnP w B P v1 v2 v3) (hb:Below w.heap.size w w'):OwnP w' B P v1 v2 v3:=by
 obtain ⟨q1,q2,q3,h1,h2,h3⟩:=h;exact ⟨q1,q2,q3,⟨h1.1.below hb,h1.2⟩,⟨h2.1.below hb,h2.2⟩,h3.1.below hb,h3.2⟩
theorem OwnP.base {w:World} {B C:Nat} {P:Pg} {v1 v2 v3:Value} (h:OwnP w B P v1 v2 v3) (hc:C≤B):OwnP w C P v1 v2 v3:=by
 obtain ⟨q1,q2,q3,h1,h2,h3⟩:=h;exact ⟨q1,q2,q3,⟨h1.1.base hc,h1.2⟩,⟨h2.1.base hc,h2.2⟩,h3.1.base hc,h3.2⟩
theorem OwnP.at {w:World} {B:Nat} {P:Pg} {v1 v2 v3:Value} (h:OwnP w B P v1 v2 v3):PgAt w P v1 v2 v3:=by
 obtain ⟨q1,q2,q3,h1,h2,h3⟩:=h;exact ⟨h1.2 ▸ h1.1.at,h2.2 ▸ h2.1.at,h3.2 ▸ h3.1.at⟩
noncomputable def PA (t:ByteArray):Int:=if Sc.BS t 4096=0 then (if OY (Sc.lG t 4096)=0 then (if aX (OZ (Sc.lG t 4096))=true then 0 else 24) else OY (Sc.lG t 4096)) else Sc.BS t 4096
def PB (t:ByteArray):Pg:=OZ (Sc.lG t 4096)
end Go.Proofs.YtlmpiohbmlddiaaGreatDoor
namespace Go.Proofs.YtlmpiohbmlddiaaGreatDoor
open Go.RowKit Go.Maps Go.WideMaps
set_option maxRecDepth 100000
structure Dv where
 d:Dr
 u:Value
 v1:Value
 v2:Value
 v3:Value
def mT (x:Dv):List Value:=[x.u,.string x.d.pk.nm,.int .i64 x.d.pk.a,.int .i64 x.d.pk.b,.int .i64 x.d.pk.c,x.v1,x.v2,x.v3,.int .i64 x.d.nd]
theorem zI (x:Dv):(mT x).length=9:=rfl
theorem QZ:(Tryz.prog.info? 56).map (fun i=>(i.zero,i.size,i.bytes))=some (some (.agg #[.slice none 0 0,.string ⟨#[]⟩,.int .i64 0,.int .i64 0,.int .i64 0,.slice none 0 0,.slice none 0 0,.slice none 0 0,.int .i64 0]),9,144):=by kernel_rfl
def OwnV (w:World) (B:Nat) (x:Dv):Prop:=OwnPa w B x.u x.d.pa∧OwnP w B x.d.pk x.v1 x.v2 x.v3
theorem OwnV.below {w w':World} {B:Nat} {x:Dv} (h:OwnV w B x) (hb:Below w.heap.size w w'):OwnV w' B x:=⟨h.1.below hb,h.2.below hb⟩
theorem OwnD.keptV {w w':World} {B B':Nat} {v v':Value} {ps:List (Dp×Value)} {n':Nat} {ys:List Value} (h:OwnD w B v ps) (hr:w.ownsRow B' 56 9 v' n' ys) (hg:w.grownBy w' v'.ownBlock):OwnD w' B v ps:=⟨World.ownsRow.kept h.1 hg (eX h.1 hr (by decide)),fun p hp=>World.ownsRow.kept (h.2 p hp) hg (eX (h.2 p hp) hr (by decide))⟩
theorem OwnV.kept {w w':World} {B B':Nat} {x:Dv} {v':Value} {n':Nat} {ys:List Value} (h:OwnV w B x) (hr:w.ownsRow B' 56 9 v' n' ys) (hg:w.grownBy w' v'.ownBlock):OwnV w' B x:=by
 obtain ⟨h1,q1,q2,q3,⟨d1,m1⟩,⟨d2,m2⟩,d3,m3⟩:=h;exact ⟨World.ownsRow.kept h1 hg (eX h1 hr (by decide)),q1,q2,q3,⟨d1.keptV hr hg,m1⟩,⟨d2.keptV hr hg,m2⟩,d3.keptV hr hg,m3⟩
theorem OwnV.one {w:World} {B:Nat} {x:Dv} (h:OwnV w B x):∀ v ∈ mT x,v.oneCell'=true:=fun v hv=>by
 obtain ⟨ua,uc,e0⟩:=h.1.at.sl;have hp:=h.2.at;obtain ⟨a1,c1,e1⟩:=hp.1.sl;obtain ⟨a2,c2,e2⟩:=hp.2.1.sl;obtain ⟨a3,c3,e3⟩:=hp.2.2.sl;simp only [mT,List.mem_cons,List.not_mem_nil,or_false] at hv
 rcases hv with rfl|rfl|rfl|rfl|rfl|rfl|rfl|rfl|rfl
 · rw [e0];rfl
 · rfl
 · rfl
 · rfl
 · rfl
 · rw [e1];rfl
 · rw [e2];rfl
 · rw [e3];rfl
 · rfl
def RowV (w:World) (B:Nat) (v:Value) (xs:List Dv):Prop:=w.ownsRow B 56 9 v xs.length (xs.flatMap mT)∧∀ x ∈ xs,OwnV w B x
theorem RowV.below {w w':World} {B:Nat} {v:Value} {xs:List Dv} (h:RowV w B v xs) (hb:Below w.heap.size w w'):RowV w' B v xs:=⟨bS h.1 hb,fun x hx=>(h.2 x hx).below hb⟩
theorem RowV.form {w:World} {B:Nat} {v:Value} {xs:List Dv} (h:RowV w B v xs):∃ a c,v= .slice a xs.length c:=by
 rcases h.1.2 with ⟨rfl,hn⟩|⟨g,cap,cur,rfl,_⟩
 · exact ⟨none,0,by rw [hn]⟩
 · exact ⟨_,_,rfl⟩
theorem GC (xs:List Dv) (i r:Nat) (hi:i<xs.length) (hr:r<9):(xs.flatMap mT)[i*9+r]? =(mT xs[i])[r]? :=by
 haveI:Inhabited Dv:=⟨⟨⟨[],fS,0⟩,undef,undef,undef,undef⟩⟩
 have h:=hZ mT 9 (fun _=>rfl) xs i r hi hr
 rwa [getElem!_pos xs i hi] at h
theorem RowV.at {w:World} {B:Nat} {v:Value} {xs:List Dv} (h:RowV w B v xs):DirsAt w v (xs.map Dv.d):=by
 rcases h.1.2 with ⟨rfl,hn⟩|⟨g,cap,cur,rfl,hB,hg,hc,_⟩
 · obtain rfl:xs=[]:=List.length_eq_zero_iff.1 hn
   exact ⟨none,0,rfl,Nat.le_refl _,Or.inl rfl⟩
 · refine ⟨_,cap,by rw [List.length_map],by rw [List.length_map];exact hc,Or.inr ⟨g,0,rfl,fun i hi=> ?_⟩⟩
   rw [List.length_map] at hi;rw [List.getElem_map];have hx:=h.2 _ (List.getElem_mem hi)
   have hcl:∀ r u,r<9→(mT xs[i])[r]? =some u→w.cell? ⟨g,0+i*9+r,none⟩=some u:=fun r u hr e=>by
    rw [Nat.zero_add,World.ownsRow.cellAt h.1 (i*9+r) (by omega),GC xs i r hi hr];exact e
   exact ⟨xs[i].u,xs[i].v1,xs[i].v2,xs[i].v3,⟨hcl 0 _ (by decide) rfl,hcl 1 _ (by decide) rfl,hcl 2 _ (by decide) rfl,hcl 3 _ (by decide) rfl,hcl 4 _ (by decide) rfl,hcl 5 _ (by decide) rfl,hcl 6 _ (by decide) rfl,hcl 7 _ (by decide) rfl,hcl 8 _ (by decide) rfl⟩,⟨hx.1.at,hx.2.at⟩,(Array.getElem?_eq_some_iff.1 hg).1⟩
theorem TS {B:Nat} {wx:World} {v:Value} {xs:List Dv} {x:Dv} {N:Nat} {ops:Array Oper} {rest:List Oper} {o:Oper} {f:Act} {Q:Exit→Act→World→Prop}
 (hgd:o.guard=none) (s t:Operand) (ho:o.op= .call { callee:= .builtin .append,args:= #[s,t],argTypes:= #[28,28] }) (hs:f.eval s=v)
 (hown:RowV wx B v xs) (hB:B≤wx.heap.size) (hx:f.eval t= .slice (some ⟨N,0,none⟩) 1 1) (hov:OwnV wx B x) (hc:∀ j u,(mT x)[j]? =some u→wx.cell? ((⟨N,0,none⟩:Addr).add j)=some u) (hb:xs.length≤1000000)
 (h:∀ v1 w1,RowV w1 B v1 (xs++[x])→wx.grownBy w1 v.ownBlock→wpList Tryz.prog ops Q rest (f.put o.dst v1) w1):
 wpList Tryz.prog ops Q (o::rest) f wx:=by
 obtain ⟨i0,hi,hz0,hz1,hz2⟩:=Sc.bW QZ;refine wpList_append_own_wide _ hgd s t 28 ho B 56 i0 _ 9 144 Tryz.underlying28 hi hz0 hz1 hz2 rfl (by decide) v xs.length (xs.flatMap mT) hs hown.1 ⟨N,0,none⟩ 1 1 (mT x) hx rfl hc hov.one (by unfold maxLen;omega) (by omega) hB ?_;intro v1 w1 h1 h2 _;refine h v1 w1 ⟨?_,fun y hy=> ?_⟩ h2
 · rw [List.length_append,List.flatMap_append]
   simpa using h1
 · rcases List.mem_append.1 hy with hy|hy
   · exact (hown.2 y hy).kept hown.1 h2
   · obtain rfl:=List.mem_singleton.1 hy
     exact hov.kept hown.1 h2
noncomputable def gPk (t:ByteArray):Pg:=if PA t=0 then PB t else fS
noncomputable def zJ (M:List Fi) (x:Fi):List Dr:=match cH x.pa.data.toList with
 |some p=>[⟨p,gPk (cW M (x.pa++cZ)).da,1⟩]
 |none=>[]
noncomputable def cR (M:List Fi) (ts:List Fi):List Dr:=drZ::ts.flatMap (zJ M)
theorem PC (M:List Fi) (x:Fi):(zJ M x).length≤1:=by
 unfold zJ
 split<;>simp
theorem kM (M:List Fi):∀ ts:List Fi,(ts.flatMap (zJ M)).length≤ts.length
 |[]=>by simp
 |x::ts=>by
  rw [List.flatMap_cons,List.length_append,List.length_cons]
  have:=kM M ts
  have:=PC M x
  omega
end Go.Proofs.YtlmpiohbmlddiaaGreatDoor
