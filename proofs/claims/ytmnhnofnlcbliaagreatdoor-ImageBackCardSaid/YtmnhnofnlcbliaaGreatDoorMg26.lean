/- Lo5, Lo6, Rk2, Tw12: their declarations that are needed, laid in one text, remarks and blanks left out. -/
import Derived.Test.YtmnhnofnlcbliaaGreatDoorMg25
namespace Go.Proofs.YtmnhnofnlcbliaaGreatDoor.Lo
open Go.RowKit
open Sc (KeepP aB aG Bs ba WordsAt LinesAt isL)
set_option maxRecDepth 100000
open Sc (KeepP aB aG Bs ba WordsAt LinesAt isL isW aM aW)
open Sc (Bs ba isW isL wB aW aM aK)
set_option maxHeartbeats 12800000 in
theorem xD {L:List (List Bs)} {v:Value} {w:World} (hv:LinesAt w v L) (hl:L.all isL=true) (hLl:L.length≤900000) (hz:∀ l ∈ L,∀ x ∈ l,x.length≤2000000) (he:Env w):
 Calls Tryz.prog 140 #[v] w (GrQ w (eY L)):=by
 have HNO:Hid (∀ w',eY L=none→Below w.heap.size w w'→GrQ w (eY L) (.returned (.tuple #[.agg #[.slice none 0 0],.bool false])) w'):=fun w' e hb=>⟨hb,Or.inr ⟨e,rfl⟩⟩
 have HYE:Hid (∀ w' ad cap all,eY L=some (all.map NV.nd)→Below w.heap.size w w'→RA w' w.heap.size (.slice ad all.length cap) all→GrQ w (eY L) (.returned (.tuple #[.agg #[.slice ad all.length cap],.bool true])) w'):=fun w' ad cap all e hb hr=>⟨hb,Or.inl ⟨ad,cap,all,e,rfl,hr⟩⟩
 obtain ⟨ad,cap,rfl,hcap,hcs⟩:=hv;have HB0:Hid (Below w.heap.size w (w.alloc (.cells #[.slice none 0 0] 27))∧BxGF (w.alloc (.cells #[.slice none 0 0] 27)) w.heap.size (.slice none 0 0)):=⟨aC _ _,BxGF.new rfl _⟩;obtain ⟨⟨z0,z1⟩,z2⟩:=HB0.out.2;cases L with
 |nil=>
  have hR:eY []=none:=rfl;generalize GrQ w (eY [])=QQ at*;rw [List.length_nil]
  go_enter Tryz.func140,Tryz.ntmps140
  go_wp2
  try simp only [Exit.inBlock,Exit.then]
  refine bodyPost_ret (by simp [results,Tryz.results140,go_sem];try rfl) rfl ?_;exact HNO.out _ hR (by first|exact HB0.out.1.setCell (p:=⟨w.heap.size,0,none⟩) (Nat.le_refl _) _|exact HB0.out.1)
 |cons h r=>
  obtain ⟨g,o,rfl,hg,hcs⟩:∃ g o,ad=some ⟨g,o,none⟩∧g<w.heap.size∧∀ i (hi:i<(h::r).length),∃ u,w.cell? ⟨g,o+i,none⟩=some u∧WordsAt w u (h::r)[i]:=by
   rcases hcs with q|q
   · cases q
   · exact q
  obtain ⟨u,c0,hu⟩:=hcs 0 (by simp);have c0':w.cell? ⟨g,o,none⟩=some u:=c0;have hu':WordsAt w u h:=hu;have k0:=((aC w (.cells #[.slice none 0 0] 27)).cell (p:=⟨g,o,none⟩) hg).trans c0';obtain ⟨au,cu,rfl,hcu,hx⟩:=hu';rw [List.length_cons];have hb0:(0:Int)<(r.length:Int)+1:=by omega
  have hb1:(1:Int)≤(r.length:Int)+1:=by omega
  have hb2:(r.length:Int)+1≤(cap:Int):=by simp at hcap;omega
  have hb3:((r.length:Int)+1==0)=false:=by rw [beq_eq_false_iff_ne];omega
  clear c0 hu c0'
  by_cases h1:h.length=1
  · obtain ⟨x,rfl⟩:∃ x,h=[x]:=by
     match h,h1 with
     |[x],_=>exact ⟨x,rfl⟩
    obtain ⟨gu,ou,rfl,hgu,hx⟩:∃ g o,au=some ⟨g,o,none⟩∧g<w.heap.size∧∀ i (hi:i<[x].length),w.cell? ⟨g,o+i,none⟩=some (.string (ba [x][i])):=by
     rcases hx with q|q
     · cases q
     · exact q
    have cx:w.cell? ⟨gu,ou,none⟩=some (.string (ba x)):=hx 0 (by simp);have kx:=((aC w (.cells #[.slice none 0 0] 27)).cell (p:=⟨gu,ou,none⟩) hgu).trans cx;have q1:=JA x [108,111,99,107];rw [show ([x]:List Bs).length=1 from rfl] at k0
    by_cases hx1:x=tB
    · rw [decide_eq_true (show x=[108,111,99,107] from hx1)] at q1
      have HRG:Hid (eY ([x]::r)=cC [] r):=by unfold Hid;rw [pE,if_pos (by rw [hx1])]
      have hr:∀ i (hi:i<r.length),∃ u,w.cell? ⟨g,o+1+i,none⟩=some u∧WordsAt w u r[i]:=fun i hi=>by
       have:=hcs (i+1) (by simpa using hi)
       simpa [Nat.add_assoc,Nat.add_comm 1 i] using this
      have HR:=aB hr
      have HRL:Hid (∀ i (hi:i<r.length),isL r[i]=true):=fun i hi=>by
       rw [List.all_cons,Bool.and_eq_true] at hl;exact List.all_eq_true.1 hl.2 _ (List.getElem_mem hi)
      have HRZ:Hid (∀ i (hi:i<r.length),∀ x ∈ r[i],x.length≤2000000):=fun i hi=>hz _ (List.mem_cons_of_mem _ (List.getElem_mem hi))
      have HEV:=aB he;have hrl:r.length≤900000:=by simp at hLl;omega
      have HS0:Hid (RS (w.heap.size+1) [] ((w.alloc (.cells #[.slice none 0 0] 27)).alloc (.cells #[.slice none 0 0,.pointer none] 233))):=RS.start (by simp);have HB2:Hid (Below w.heap.size w ((w.alloc (.cells #[.slice none 0 0] 27)).alloc (.cells #[.slice none 0 0,.pointer none] 233))∧BxGF ((w.alloc (.cells #[.slice none 0 0] 27)).alloc (.cells #[.slice none 0 0,.pointer none] 233)) w.heap.size (.slice none 0 0)):=⟨aA HB0.out.1 (aC _ _),JB _ _ _ _ HB0.out.2 (aC _ _)⟩;clear hcs hx hl hLl hz he cx hx1 hr hcu;generalize ba x=sx at*;generalize GrQ w (eY ([x]::r))=QQ at*
      by_cases hcap1:cap=1
      · subst hcap1
        have hr00:r.length≤0:=by omega
        have hb5:((r.length:Int)+1 - 1)=(r.length:Int):=by omega
        go_enter Tryz.func140,Tryz.ntmps140
        go_wp2_with fail
        obtain ⟨W2,hW2⟩:∃ W2,W2=((w.alloc (.cells #[.slice none 0 0] 27)).alloc (.cells #[.slice none 0 0,.pointer none] 233)):=⟨_,rfl⟩;have HS1:Hid (Below (w.heap.size+1) W2 ((w.alloc (.cells #[.slice none 0 0] 27)).alloc (.cells #[.slice none 0 0,.pointer none] 233))):=by unfold Hid;rw [hW2];exact Below.refl _ _
        rw [←hW2] at HB2;clear hW2
        go_loopw [29] (fun i wr=>∃ (k:Nat) (st:List Nd),k≤r.length∧i= .int .i64 k∧RS (w.heap.size+1) st wr∧Below (w.heap.size+1) W2 wr∧cC [] (r.take k)=some st∧Bd k st) (fun i _=>r.length - (intOf i).toNat)
        case atStart=>exact ⟨0,[],Nat.zero_le _,rfl,HS0.out,HS1.out,rfl,Nat.le_refl _,fun n hn=>by cases hn⟩
        case round=>
         obtain ⟨k,st,hk,rfl,hrs,hb,hft,hbd⟩:=hrel;have HRS:=aB hrs;have HBW:Hid (Below w.heap.size w wr):=HB2.out.1.trans (hb.mono (Nat.le_succ _));have HBR:=aB hb;have HFT:=aB hft;have HBD:=aB hbd;have HGF:Hid (BxGF wr w.heap.size (.slice none 0 0)):=HB2.out.2.of hb (Nat.lt_succ_self _);clear hrs hb hft hbd
         by_cases hlt:k<r.length
         · exact absurd hlt (by omega)
         · obtain rfl:k=r.length:=by omega
           rw [List.take_length] at HFT;obtain ⟨ad2,cap2,all,rfl,m0,m1,_⟩:=HRS.out.all;have HM1:=aB m1;obtain ⟨⟨n0,n1⟩,n2⟩:=HGF.out;have s1:=fun u=>World.cell?_setCell_same wr ⟨w.heap.size,0,none⟩ u n0
           have hki:¬ ((r.length:Int)<(r.length:Int)):=by omega
           clear m1
           go_wp2
           try simp only [Exit.inBlock,Exit.then]
           refine bodyPost_ret (by simp [results,Tryz.results140,s1,go_sem];try rfl) rfl ?_;refine HYE.out _ ad2 cap2 all (by rw [HRG.out,HFT.out]) (HBW.out.setCell (p:=⟨w.heap.size,0,none⟩) (Nat.le_refl _) _) ((HM1.out.low (by omega:w.heap.size+1≤w.heap.size+1+1)).of (fun q hq _=>Below.heap_setCell _ _ _ _ (by simp only;omega)) |>.low (Nat.le_succ _))
      · have hc1:(1:Int)<(cap:Int):=by omega
        go_enter Tryz.func140,Tryz.ntmps140
        go_wp2_with fail
        obtain ⟨W2,hW2⟩:∃ W2,W2=((w.alloc (.cells #[.slice none 0 0] 27)).alloc (.cells #[.slice none 0 0,.pointer none] 233)):=⟨_,rfl⟩;have HS1:Hid (Below (w.heap.size+1) W2 ((w.alloc (.cells #[.slice none 0 0] 27)).alloc (.cells #[.slice none 0 0,.pointer none] 233))):=by unfold Hid;rw [hW2];exact Below.refl _ _
        rw [←hW2] at HB2;clear hW2
        go_loopw [29] (fun i wr=>∃ (k:Nat) (st:List Nd),k≤r.length∧i= .int .i64 k∧RS (w.heap.size+1) st wr∧Below (w.heap.size+1) W2 wr∧cC [] (r.take k)=some st∧Bd k st) (fun i _=>r.length - (intOf i).toNat)
        case atStart=>exact ⟨0,[],Nat.zero_le _,rfl,HS0.out,HS1.out,rfl,Nat.le_refl _,fun n hn=>by cases hn⟩
        case round=>
         obtain ⟨k,st,hk,rfl,hrs,hb,hft,hbd⟩:=hrel;have HRS:=aB hrs;have HBW:Hid (Below w.heap.size w wr):=HB2.out.1.trans (hb.mono (Nat.le_succ _));have HBR:=aB hb;have HFT:=aB hft;have HBD:=aB hbd;have HGF:Hid (BxGF wr w.heap.size (.slice none 0 0)):=HB2.out.2.of hb (Nat.lt_succ_self _);clear hrs hb hft hbd
         by_cases hlt:k<r.length
         · have hki:(k:Int)<(r.length:Int):=by omega
           obtain ⟨u2,c2,hu2⟩:=HR.out k hlt;have hil:=HRL.out k hlt;have hzk:=HRZ.out k hlt;obtain ⟨l,hl⟩:∃ l,l=r[k]:=⟨_,rfl⟩;rw [←hl] at hu2 hil hzk;have HLN0:=aB hl;clear hl;cases l with
           |nil=>exact absurd hil (by decide)
           |cons x' ws'=>
           have HLN:Hid (x'::ws'=r[k]):=HLN0.out;obtain ⟨au2,cu2,rfl,hcu2,hx2⟩:=hu2
           obtain ⟨gu2,ou2,rfl,hgu2,hx2⟩:∃ g o,au2=some ⟨g,o,none⟩∧g<w.heap.size∧∀ i (hi:i<(x'::ws').length),w.cell? ⟨g,o+i,none⟩=some (.string (ba (x'::ws')[i])):=by
            rcases hx2 with q|q
            · cases q
            · exact q
           have cx2:w.cell? ⟨gu2,ou2,none⟩=some (.string (ba x')):=hx2 0 (by simp);have d2:=(HBW.out.cell (p:=⟨g,o+1+k,none⟩) hg).trans c2;have d3:=(HBW.out.cell (p:=⟨gu2,ou2,none⟩) hgu2).trans cx2;have HCX:Hid (∀ W,Below (w.heap.size+1) wr.drew W→W.cell? ⟨gu2,ou2,none⟩=some (.string (ba x'))):=fun W hb=>(hb.cell (p:=⟨gu2,ou2,none⟩) (by simp only;omega)).trans d3
           have HTK:Hid (∀ vw,WordsAt wr.drew vw ws'→Calls Tryz.prog 186 #[.pointer (some ⟨w.heap.size+1,0,none⟩),.string (ba x'),vw] wr.drew (TakeQ (w.heap.size+1) wr.drew (cK st x' ws'))):=fun vw hvw=>YZ (HRS.out.below (Below.refl _ _).drew) (by have:=HBD.out.1;omega) (fun n hn=>by have:=HBD.out.2 n hn;exact ⟨by omega,by omega⟩) hvw (fun y hy=>hzk y (List.mem_cons_of_mem _ hy)) (HEV.out.below HBW.out.drew)
           have hwl:(x'::ws').length=ws'.length+1:=rfl;rw [hwl] at d2 hcu2;have hv1:(1:Int)≤(ws'.length:Int)+1:=by omega
           have hv2:(ws'.length:Int)+1≤(cu2:Int):=by omega
           have hv3:(0:Int)<(ws'.length:Int)+1:=by omega
           by_cases hcu1:cu2=1
           · subst hcu1
             obtain rfl:ws'=[]:=List.eq_nil_of_length_eq_zero (by omega);have HW1:Hid (WordsAt wr.drew (.slice (some ⟨gu2,ou2,none⟩) 0 0) []):=⟨_,_,rfl,Nat.le_refl _,Or.inl rfl⟩;rw [List.length_nil] at d2;clear hx2 hzk hil hwl hcu2 cx2 c2 HLN0 hv1 hv2 hv3;cases htk:cK st x' [] with
             |none=>
              have HTN:Hid (eY ([x]::r)=none):=by
               unfold Hid;rw [HRG.out];have e1:=jM (r.take k) [] x' [];rw [HFT.out] at e1;simp only [htk] at e1;have e2:=pD (r.take k++[x'::[]]) (r.drop (k+1)) [] e1;rw [HLN.out,←List.take_succ_eq_append_getElem hlt,List.take_append_drop] at e2;exact e2
              rw [htk] at HTK;clear htk
              go_wp2_with fail
              go_region_held3 (fun w'=>w'.cell? ⟨gu2,ou2,none⟩=some (.string (ba x'))) (go_keep)
               (first|(go_at_call 186;refine (HTK.out _ HW1.out).mono ?_;rintro e w5 ⟨hb5,hq5⟩;obtain ⟨_,rfl⟩:=hq5.resolve_left (fun ⟨_,q,_⟩=>by cases q);have d5:=HCX.out _ hb5;have HG5:=aB ((HGF.out.of (Below.refl _ _).drew (Nat.lt_succ_self _)).of hb5 (Nat.lt_succ_self _));obtain ⟨⟨n0,n1⟩,n2⟩:=HG5.out;have s1:=fun u=>World.cell?_setCell_same w5 ⟨w.heap.size,0,none⟩ u n0;have HB5:=aB (HBW.out.drew.trans (hb5.mono (Nat.le_succ _)));clear hb5 hq5))
              all_goals go_wp2
              all_goals try simp only [Exit.inBlock,Exit.then]
              all_goals refine bodyPost_ret (by simp [results,Tryz.results140,s1,go_sem];try rfl) rfl ?_
              all_goals exact HNO.out _ HTN.out (HB5.out.setCell (p:=⟨w.heap.size,0,none⟩) (Nat.le_refl _) _)
             |some st2=>
              have HTS:Hid (cC [] (r.take (k+1))=some st2):=by
               unfold Hid;have e1:=jM (r.take k) [] x' [];rw [HFT.out] at e1;simp only [htk] at e1;rw [HLN.out,←List.take_succ_eq_append_getElem hlt] at e1;exact e1
              have HBD2:=aB (QK HBD.out htk);rw [htk] at HTK;clear htk
              go_wp2_with fail
              go_region_held3 (fun w'=>w'.cell? ⟨gu2,ou2,none⟩=some (.string (ba x'))) (go_keep)
               (first|(go_at_call 186;refine (HTK.out _ HW1.out).mono ?_;rintro e w5 ⟨hb5,hq5⟩;obtain ⟨st3,h3,rfl,hr3⟩:=hq5.resolve_right (fun q=>by cases q.1);cases h3;have d5:=HCX.out _ hb5;have HR5:=aB hr3;have HB5:=aB (HBR.out.drew.trans hb5);clear hb5 hq5 hr3))
              all_goals go_wp2
              all_goals exact ⟨⟨k+1,st2,by omega,by go_num,HR5.out,HB5.out,HTS.out,HBD2.out⟩,by simp [intOf];omega⟩
           · have HW1:Hid (WordsAt wr.drew (.slice (some ⟨gu2,ou2+1,none⟩) ws'.length (cu2 - 1)) ws'):=⟨_,_,rfl,by omega,Or.inr ⟨gu2,ou2+1,rfl,Nat.lt_of_lt_of_le hgu2 HBW.out.size,fun i hi=>by
              have:=hx2 (i+1) (by simpa using hi)
              have e:ou2+(i+1)=ou2+1+i:=by omega
              rw [e] at this;have h2:wr.drew.cell? ⟨gu2,ou2+1+i,none⟩=w.cell? ⟨gu2,ou2+1+i,none⟩:=HBW.out.drew.cell (p:=⟨gu2,ou2+1+i,none⟩) hgu2;rw [h2];exact this⟩⟩
             clear hx2 hzk hil hwl cx2 c2 HLN0;cases htk:cK st x' ws' with
             |none=>
              have HTN:Hid (eY ([x]::r)=none):=by
               unfold Hid;rw [HRG.out];have e1:=jM (r.take k) [] x' ws';rw [HFT.out] at e1;simp only [htk] at e1;have e2:=pD (r.take k++[x'::ws']) (r.drop (k+1)) [] e1;rw [HLN.out,←List.take_succ_eq_append_getElem hlt,List.take_append_drop] at e2;exact e2
              rw [htk] at HTK;clear htk
              go_wp2_with fail
              go_region_held3 (fun w'=>w'.cell? ⟨gu2,ou2,none⟩=some (.string (ba x'))) (go_keep)
               (first|(go_at_call 186;refine (HTK.out _ HW1.out).mono ?_;rintro e w5 ⟨hb5,hq5⟩;obtain ⟨_,rfl⟩:=hq5.resolve_left (fun ⟨_,q,_⟩=>by cases q);have d5:=HCX.out _ hb5;have HG5:=aB ((HGF.out.of (Below.refl _ _).drew (Nat.lt_succ_self _)).of hb5 (Nat.lt_succ_self _));obtain ⟨⟨n0,n1⟩,n2⟩:=HG5.out;have s1:=fun u=>World.cell?_setCell_same w5 ⟨w.heap.size,0,none⟩ u n0;have HB5:=aB (HBW.out.drew.trans (hb5.mono (Nat.le_succ _)));clear hb5 hq5))
              all_goals go_wp2
              all_goals try simp only [Exit.inBlock,Exit.then]
              all_goals refine bodyPost_ret (by simp [results,Tryz.results140,s1,go_sem];try rfl) rfl ?_
              all_goals exact HNO.out _ HTN.out (HB5.out.setCell (p:=⟨w.heap.size,0,none⟩) (Nat.le_refl _) _)
             |some st2=>
              have HTS:Hid (cC [] (r.take (k+1))=some st2):=by
               unfold Hid;have e1:=jM (r.take k) [] x' ws';rw [HFT.out] at e1;simp only [htk] at e1;rw [HLN.out,←List.take_succ_eq_append_getElem hlt] at e1;exact e1
              have HBD2:=aB (QK HBD.out htk);rw [htk] at HTK;clear htk
              go_wp2_with fail
              go_region_held3 (fun w'=>w'.cell? ⟨gu2,ou2,none⟩=some (.string (ba x'))) (go_keep)
               (first|(go_at_call 186;refine (HTK.out _ HW1.out).mono ?_;rintro e w5 ⟨hb5,hq5⟩;obtain ⟨st3,h3,rfl,hr3⟩:=hq5.resolve_right (fun q=>by cases q.1);cases h3;have d5:=HCX.out _ hb5;have HR5:=aB hr3;have HB5:=aB (HBR.out.drew.trans hb5);clear hb5 hq5 hr3))
              all_goals go_wp2
              all_goals exact ⟨⟨k+1,st2,by omega,by go_num,HR5.out,HB5.out,HTS.out,HBD2.out⟩,by simp [intOf];omega⟩
         · obtain rfl:k=r.length:=by omega
           rw [List.take_length] at HFT;obtain ⟨ad2,cap2,all,rfl,m0,m1,_⟩:=HRS.out.all;have HM1:=aB m1;obtain ⟨⟨n0,n1⟩,n2⟩:=HGF.out;have s1:=fun u=>World.cell?_setCell_same wr ⟨w.heap.size,0,none⟩ u n0
           have hki:¬ ((r.length:Int)<(r.length:Int)):=by omega
           clear m1
           go_wp2
           try simp only [Exit.inBlock,Exit.then]
           refine bodyPost_ret (by simp [results,Tryz.results140,s1,go_sem];try rfl) rfl ?_;refine HYE.out _ ad2 cap2 all (by rw [HRG.out,HFT.out]) (HBW.out.setCell (p:=⟨w.heap.size,0,none⟩) (Nat.le_refl _) _) ((HM1.out.low (by omega:w.heap.size+1≤w.heap.size+1+1)).of (fun q hq _=>Below.heap_setCell _ _ _ _ (by simp only;omega)) |>.low (Nat.le_succ _))
    · rw [decide_eq_false (show ¬ x=[108,111,99,107] from hx1)] at q1
      have hR:eY ([x]::r)=none:=by rw [pE,if_neg (fun e=>hx1 (by cases e;rfl))]
      generalize GrQ w (eY ([x]::r))=QQ at*;clear hcs hx hl hz he cx;generalize ba x=sx at*
      go_enter Tryz.func140,Tryz.ntmps140
      go_wp2
      try simp only [Exit.inBlock,Exit.then]
      refine bodyPost_ret (by simp [results,Tryz.results140,go_sem];try rfl) rfl ?_;exact HNO.out _ hR (by first|exact HB0.out.1.setCell (p:=⟨w.heap.size,0,none⟩) (Nat.le_refl _) _|exact HB0.out.1)
  · have hb4:((h.length:Int)==1)=false:=by rw [beq_eq_false_iff_ne];omega
    have hR:eY (h::r)=none:=by rw [pE,if_neg (fun e=>h1 (by rw [e];rfl))]
    generalize GrQ w (eY (h::r))=QQ at*;have hb5:((h.length:Int) != 1)=true:=by rw [bne,hb4];rfl
    have hb6:(h.length:Int)≠1:=by omega
    clear hcs hx hl hz he
    go_enter Tryz.func140,Tryz.ntmps140
    go_wp2
    try simp only [Exit.inBlock,Exit.then]
    refine bodyPost_ret (by simp [results,Tryz.results140,go_sem];try rfl) rfl ?_;exact HNO.out _ hR (by first|exact HB0.out.1.setCell (p:=⟨w.heap.size,0,none⟩) (Nat.le_refl _) _|exact HB0.out.1)
theorem uB {α β:Type} {f:α→List β} {k:Nat} (hf:∀ x,(f x).length=k):∀ (L:List α) (i c:Nat) (hi:i<L.length),c<k→(L.flatMap f)[i*k+c]? =(f L[i])[c]?
 |x::r,0,c,_,hc=>by
  rw [List.flatMap_cons,Nat.zero_mul,Nat.zero_add,List.getElem?_append_left (by rw [hf];exact hc)];rfl
 |x::r,i+1,c,hi,hc=>by
  have hi':i<r.length:=by simpa using hi
  have e:(i+1)*k+c=k+(i*k+c):=by rw [Nat.succ_mul];omega
  rw [List.flatMap_cons,e,List.getElem?_append_right (by rw [hf];omega),hf,Nat.add_sub_cancel_left,uB hf r i c hi' hc];rfl
theorem OwnP.at {w:World} {B:Nat} {v:Value} {L:List Pn} (h:OwnP w B v L):PinsAt w v L:=by
 have h0:=h
 rcases h.2 with ⟨rfl,hn⟩|⟨g,cap,cur,rfl,hB,hg,hc,_⟩
 · exact ⟨none,0,by rw [hn],by omega,Or.inl (List.eq_nil_of_length_eq_zero hn)⟩
 · refine ⟨_,cap,rfl,hc,Or.inr ⟨g,0,rfl,(Array.getElem?_eq_some_iff.1 hg).1,fun i hi=>⟨?_,(Array.getElem?_eq_some_iff.1 hg).1⟩⟩⟩
   have q:∀ c,c<4→w.cell? ⟨g,0+i*4+c,none⟩=(pnC L[i])[c]? :=fun c hc=>by
    rw [Nat.zero_add,World.ownsRow.cellAt h0 (i*4+c) (by omega)];exact uB (f:=pnC) (k:=4) (fun _=>rfl) L i c hi hc
   exact ⟨q 0 (by decide),q 1 (by decide),q 2 (by decide),q 3 (by decide)⟩
theorem OwnE.at {w:World} {B:Nat} {v:Value} {L:List Eg} (h:OwnE w B v L):EdgesAt w v L:=by
 have h0:=h
 rcases h.2 with ⟨rfl,hn⟩|⟨g,cap,cur,rfl,hB,hg,hc,_⟩
 · exact ⟨none,0,by rw [hn],by omega,Or.inl (List.eq_nil_of_length_eq_zero hn)⟩
 · refine ⟨_,cap,rfl,hc,Or.inr ⟨g,0,rfl,(Array.getElem?_eq_some_iff.1 hg).1,fun i hi=>⟨?_,(Array.getElem?_eq_some_iff.1 hg).1⟩⟩⟩
   have q:∀ c,c<2→w.cell? ⟨g,0+i*2+c,none⟩=(egC L[i])[c]? :=fun c hc=>by
    rw [Nat.zero_add,World.ownsRow.cellAt h0 (i*2+c) (by omega)];exact uB (f:=egC) (k:=2) (fun _=>rfl) L i c hi hc
   exact ⟨q 0 (by decide),q 1 (by decide)⟩
theorem RA.at {w:World} {B:Nat} {v:Value} {all:List NV} (h:RA w B v all):NodesAt w v (all.map NV.nd):=by
 have h0:=h.1
 rcases h.1.2 with ⟨rfl,hn⟩|⟨g,cap,cur,rfl,hB,hg,hc,_⟩
 · have:all=[]:=List.eq_nil_of_length_eq_zero hn
   subst this;exact ⟨none,0,rfl,Nat.le_refl _,Or.inl rfl⟩
 · refine ⟨_,cap,by rw [List.length_map],by rw [List.length_map];exact hc,Or.inr ⟨g,0,rfl,(Array.getElem?_eq_some_iff.1 hg).1,fun i hi=> ?_⟩⟩
   have hi':i<all.length:=by simpa using hi
   have q:∀ c,c<6→w.cell? ⟨g,0+i*6+c,none⟩=(ndC all[i])[c]? :=fun c hc=>by
    rw [Nat.zero_add,World.ownsRow.cellAt h0 (i*6+c) (by omega)];exact uB (f:=ndC) (k:=6) (fun _=>rfl) all i c hi' hc
   have hm:=h.2 _ (List.getElem_mem hi');rw [List.getElem_map];exact ⟨all[i].vc,all[i].ve,⟨q 0 (by decide),q 1 (by decide),q 2 (by decide),q 3 (by decide),q 4 (by decide),q 5 (by decide)⟩,⟨hm.1.at,hm.2.at⟩,(Array.getElem?_eq_some_iff.1 hg).1⟩
theorem Cf {l:List Bs} (h:isL l=true):2≤(aW l).length:=by
 match l,h with
 |[],h=>cases h
 |[x],h=>
  unfold isL isW at h;simp only [List.all_cons,List.all_nil,Bool.and_true,Bool.and_eq_true,Bool.not_eq_true',List.isEmpty_eq_false_iff] at h
  have:0<x.length:=List.length_pos_iff.2 h.1.2
  simp [aW];omega
 |x::y::r,h=>
  have:=(Sc.kV (y::r)).1
  simp only [aW,List.length_append,List.length_cons,List.length_nil];omega
theorem AQ:∀ {L:List (List Bs)},L.all isL=true→2*L.length≤(aM L).length
 |[],_=>by simp
 |l::L,h=>by
  rw [List.all_cons,Bool.and_eq_true] at h;have h1:=Cf h.1;have h2:=AQ h.2;rw [Sc.oS,List.length_append,List.length_cons];omega
theorem Cg {L:List (List Bs)} {l:List Bs} (hl:l ∈ L) {x:Bs} (hx:x ∈ l):x.length≤(aM L).length:=Nat.le_trans ((Sc.kV l).2.2 x hx) ((Sc.gY L).2 l hl)
def lX (t:ByteArray):Option (List Nd):=if Sc.eA t 1048576=0 then (match eY (Sc.cB t 1048576) with
    |some st=>if eO st=true then some st else none
    |none=>none) else none
def AR (t:ByteArray):Int:=if Sc.eA t 1048576=0 then (if (lX t).isSome=true then 0 else 22) else Sc.eA t 1048576
def PrQ (w:World) (t:ByteArray) (e:Ending) (w':World):Prop:=Below w.heap.size w w'∧
 ((∃ ad cap all,lX t=some (all.map NV.nd)∧e= .returned (.tuple #[.agg #[.slice ad all.length cap],.int .i64 0])∧RA w' w.heap.size (.slice ad all.length cap) all)∨(lX t=none∧e= .returned (.tuple #[.agg #[.slice none 0 0],.int .i64 (AR t)])))
theorem tC {t:ByteArray} (h:Sc.eA t 1048576=0):(Sc.cB t 1048576).all isL=true∧aM (Sc.cB t 1048576)=t.data.toList∧t.size≤1048576:=by
 unfold Sc.eA at h;unfold Sc.cB
 split at h
 · cases h
 · rename_i hs
   rw [if_neg hs];cases hr:Sc.bI t.data.toList [] [] [] with
   |error n=>rw [hr] at h;cases h
   |ok L=>
    obtain ⟨h1,h2⟩:=Sc.kJ _ _ _ _ _ hr rfl rfl rfl;refine ⟨h1,?_,by omega⟩;show aM L=_
    simpa [Sc.uF,aM] using h2
theorem UF (t:ByteArray) (w:World):Calls Tryz.prog 138 #[.string t,.int .i64 1048576] w fun e w'=>∃ v n,e= .returned (.tuple #[v,.int .i64 (Sc.eA t 1048576),.int .i64 n])∧LinesAt w' v (Sc.cB t 1048576)∧Below w.heap.size w w':=by
 have:Calls Tryz.prog 138 #[.string t,.int .i64 1048576] w (Sc.CI w (Sc.eA t 1048576) (Sc.TB t 1048576) (Sc.cB t 1048576)):=by
  by_cases h:(1048576:Int)<(t.size:Int)
  · have:=Sc.rS t 1048576 h w
    unfold Sc.eA Sc.TB Sc.cB;rw [if_pos h,if_pos h,if_pos h];exact this
  · exact Sc.zY t (by omega) 1048576 w
 exact this.mono fun e w' ⟨v,h1,h2,h3⟩=>⟨v,_,h1,by obtain ⟨ps,hp,hl⟩:=h2;rw [←hp];exact hl.at,h3⟩
set_option maxHeartbeats 6400000 in
theorem NH (t:ByteArray) (w:World) (he:Env w):Calls Tryz.prog 88 #[.string t] w (PrQ w t):=by
 have HLI:=aB (UF t);have HNO:Hid (∀ w' er,lX t=none→er=AR t→Below w.heap.size w w'→PrQ w t (.returned (.tuple #[.agg #[.slice none 0 0],.int .i64 er])) w'):=fun w' er e e2 hb=>by rw [e2];exact ⟨hb,Or.inr ⟨e,rfl⟩⟩
 have HYE:Hid (∀ w' ad cap all,lX t=some (all.map NV.nd)→Below w.heap.size w w'→RA w' w.heap.size (.slice ad all.length cap) all→PrQ w t (.returned (.tuple #[.agg #[.slice ad all.length cap],.int .i64 0])) w'):=fun w' ad cap all e hb hr=>⟨hb,Or.inl ⟨ad,cap,all,e,rfl,hr⟩⟩
 have HB0:Hid (Below w.heap.size w (w.alloc (.cells #[.slice none 0 0] 27))∧BxGF (w.alloc (.cells #[.slice none 0 0] 27)) w.heap.size (.slice none 0 0)):=⟨aC _ _,BxGF.new rfl _⟩;have HKB:Hid (KeepP fun W=>Below w.heap.size w W∧BxGF W w.heap.size (.slice none 0 0)):=(aG w).and (JB _ _);have HEV:=aB he
 by_cases hE:Sc.eA t 1048576=0
 · obtain ⟨f1,f2,f3⟩:=tC hE
   have hlz:(aM (Sc.cB t 1048576)).length≤1048576:=by rw [f2,Sc.aI];exact f3
   have HRD:Hid (∀ W v,Env W→LinesAt W v (Sc.cB t 1048576)→Calls Tryz.prog 140 #[v] W (GrQ W (eY (Sc.cB t 1048576)))):=fun W v hv hla=>xD hla f1 (by have:=AQ f1;omega) (fun l hl x hx=>Nat.le_trans (Cg hl hx) (by omega)) hv
   have hPG:lX t=match eY (Sc.cB t 1048576) with
    |some st=>if eO st=true then some st else none
    |none=>none:=by unfold lX;rw [if_pos hE]
   have hPE:AR t=if (lX t).isSome=true then 0 else 22:=by unfold AR;rw [if_pos hE]
   rw [hE] at HLI;clear f1 f2 f3 hlz hE he;generalize Sc.cB t 1048576=L at*;cases hrg:eY L with
   |none=>
    rw [hrg] at hPG HRD
    simp only at hPG
    rw [hPG] at hPE;have HN:=aB (fun w' hb=>HNO.out w' 22 hPG (by rw [hPE];rfl) hb);clear hPG hPE hrg;generalize PrQ w t=QQ at*
    go_enter Tryz.func88,Tryz.ntmps88
    go_wp2_with (first
     |(go_at_call 138;refine (HLI.out _).mono ?_;rintro e w1 ⟨v,n,rfl,hla,hb1⟩;have HLA:=aB hla;have HB1:=aB (HKB.out _ _ HB0.out hb1);obtain ⟨al,cl,rfl,_⟩:=hla;clear hb1)
     |(go_at_call 140;refine (HRD.out _ _ (HEV.out.below HB1.out.1) HLA.out).mono ?_;rintro e w2 ⟨hb2,hq2⟩;obtain ⟨_,rfl⟩:=hq2.resolve_left (fun ⟨_,_,_,q,_⟩=>by cases q);have HB2:=aB (HKB.out _ _ (HKB.out _ _ HB1.out hb2) (aC w2 (.cells #[.slice none 0 0] 27)));obtain ⟨⟨n0,n1⟩,n2⟩:=HB2.out.2;have s1:=fun u=>World.cell?_setCell_same (w2.alloc (.cells #[.slice none 0 0] 27)) ⟨w.heap.size,0,none⟩ u n0;clear hb2 hq2))
    try simp only [Exit.inBlock,Exit.then]
    refine bodyPost_ret (by simp [results,Tryz.results88,s1,go_sem];try rfl) rfl ?_;exact HN.out _ (HB2.out.1.setCell (p:=⟨w.heap.size,0,none⟩) (Nat.le_refl _) _)
   |some st=>
    rw [hrg] at hPG HRD
    simp only at hPG
    have HMY:Hid (∀ W v,NodesAt W v st→Calls Tryz.prog 62 #[.agg #[v]] W fun e w'=>e= .returned (.bool (eO st))∧Below W.heap.size W w'):=fun W v hn=>wO hn
    cases hmg:eO st
    · rw [hmg] at hPG HMY
      simp only [Bool.false_eq_true,if_false] at hPG;rw [hPG] at hPE;have HN:=aB (fun w' hb=>HNO.out w' 22 hPG (by rw [hPE];rfl) hb);clear hPG hPE hrg hmg;generalize PrQ w t=QQ at*
      go_enter Tryz.func88,Tryz.ntmps88
      go_wp2_with (first
       |(go_at_call 138;refine (HLI.out _).mono ?_;rintro e w1 ⟨v,n,rfl,hla,hb1⟩;have HLA:=aB hla;have HB1:=aB (HKB.out _ _ HB0.out hb1);obtain ⟨al,cl,rfl,_⟩:=hla;clear hb1)
       |(go_at_call 140;refine (HRD.out _ _ (HEV.out.below HB1.out.1) HLA.out).mono ?_;rintro e w2 ⟨hb2,hq2⟩;obtain ⟨ad2,cp2,all,hst,rfl,hra⟩:=hq2.resolve_right (fun q=>by cases q.1);cases hst;have HB2:=aB (HKB.out _ _ (HKB.out _ _ HB1.out hb2) (aC w2 (.cells #[.slice ad2 all.length cp2] 27)));have HNA:=aB ((hra.below (aC w2 (.cells #[.slice ad2 all.length cp2] 27))).at);clear hb2 hq2 hra)
       |(go_at_call 62;refine (HMY.out _ _ HNA.out).mono ?_;rintro e w3 ⟨rfl,hb3⟩;have HB3:=aB (HKB.out _ _ HB2.out hb3);obtain ⟨⟨n0,n1⟩,n2⟩:=HB3.out.2;have s1:=fun u=>World.cell?_setCell_same w3 ⟨w.heap.size,0,none⟩ u n0;clear hb3))
      try simp only [Exit.inBlock,Exit.then]
      refine bodyPost_ret (by simp [results,Tryz.results88,s1,go_sem];try rfl) rfl ?_;exact HN.out _ (HB3.out.1.setCell (p:=⟨w.heap.size,0,none⟩) (Nat.le_refl _) _)
    · rw [hmg] at hPG HMY
      simp only [if_true] at hPG;have HY:=aB (fun w' ad cap all (e:st=all.map NV.nd) hb hr=>HYE.out w' ad cap all (by rw [hPG,e]) hb hr);clear hPG hPE hrg hmg;generalize PrQ w t=QQ at*
      go_enter Tryz.func88,Tryz.ntmps88
      go_wp2_with (first
       |(go_at_call 138;refine (HLI.out _).mono ?_;rintro e w1 ⟨v,n,rfl,hla,hb1⟩;have HLA:=aB hla;have HB1:=aB (HKB.out _ _ HB0.out hb1);obtain ⟨al,cl,rfl,_⟩:=hla;clear hb1)
       |(go_at_call 140;refine (HRD.out _ _ (HEV.out.below HB1.out.1) HLA.out).mono ?_;rintro e w2 ⟨hb2,hq2⟩;obtain ⟨ad2,cp2,all,hst,rfl,hra⟩:=hq2.resolve_right (fun q=>by cases q.1);cases hst;have HB2:=aB (HKB.out _ _ (HKB.out _ _ HB1.out hb2) (aC w2 (.cells #[.slice ad2 all.length cp2] 27)));have HRA:=aB (hra.below (aC w2 (.cells #[.slice ad2 all.length cp2] 27)));have HGX:=aB (BxG.new (w:=w2) rfl (.slice ad2 all.length cp2));have HSZ:Hid (w.heap.size<w1.heap.size):=HB1.out.2.1.2;clear hb2 hq2 hra)
       |(go_at_call 62;refine (HMY.out _ _ HRA.out.at).mono ?_;rintro e w3 ⟨rfl,hb3⟩;have HB3:=aB (HKB.out _ _ HB2.out hb3);have HRA3:=aB (HRA.out.below hb3);obtain ⟨⟨n0,n1⟩,n2⟩:=HB3.out.2;obtain ⟨g0,g1⟩:=tZ _ _ _ _ HGX.out hb3;have s1:=fun u=>World.cell?_setCell_same w3 ⟨w.heap.size,0,none⟩ u n0;clear hb3))
      try simp only [Exit.inBlock,Exit.then]
      refine bodyPost_ret (by simp [results,Tryz.results88,s1,go_sem];try rfl) rfl ?_;exact HY.out _ ad2 cp2 all rfl (HB3.out.1.setCell (p:=⟨w.heap.size,0,none⟩) (Nat.le_refl _) _) ((HRA3.out.of fun q hq _=>Below.heap_setCell _ _ _ _ (by have:=HSZ.out;simp only;omega)).low HB1.out.1.size)
 · have hN:lX t=none:=by unfold lX;rw [if_neg hE]
   have hPE:Sc.eA t 1048576=AR t:=by unfold AR;rw [if_neg hE]
   have HN:=aB (fun w' hb=>HNO.out w' _ hN hPE hb);have hre:(Sc.eA t 1048576==0)=false:=by simpa using hE
   clear hN hPE hE he;generalize PrQ w t=QQ at*;generalize Sc.eA t 1048576=AE at*
   go_enter Tryz.func88,Tryz.ntmps88
   go_wp2_with (go_at_call 138;refine (HLI.out _).mono ?_;rintro e w1 ⟨v,n,rfl,hla,hb1⟩;have HB1:=aB (HKB.out _ _ HB0.out hb1);obtain ⟨⟨n0,n1⟩,n2⟩:=HB1.out.2;have s1:=fun u=>World.cell?_setCell_same w1 ⟨w.heap.size,0,none⟩ u n0;clear hb1)
   try simp only [Exit.inBlock,Exit.then]
   refine bodyPost_ret (by simp [results,Tryz.results88,s1,go_sem];try rfl) rfl ?_;exact HN.out _ (HB1.out.1.setCell (p:=⟨w.heap.size,0,none⟩) (Nat.le_refl _) _)
def xE:List Nd→List (List Bs)
 |[]=>[]
 |n::r=>[oA]::(dG n++eX r)
theorem xG {st:List Nd} (h:st≠[]):kI st=[tB]::xE st:=by
 cases st with
 |nil=>exact absurd rfl h
 |cons n r=>rfl
theorem sC {dn:List Nd} (h:dn≠[]) (n:Nd):xE (dn++[n])=xE dn++(jJ n::dG n):=by
 cases dn with
 |nil=>exact absurd rfl h
 |cons m r=>
  show [oA]::(dG m++eX (r++[n]))=[oA]::(dG m++eX r)++(jJ n::dG n);rw [wP]
  simp
theorem JC (dn:List Nd) {l l':Nd} {x:List Bs} (hn:jJ l'=jJ l) (hl:dG l'=dG l++[x]):xE (dn++[l'])=xE (dn++[l])++[x]:=by
 by_cases h:dn=[]
 · subst h
   show [oA]::(dG l'++[])=[oA]::(dG l++[])++[x];rw [hl]
   simp
 · rw [sC h,sC h,hn,hl]
   simp
theorem QL {st:List Nd} (h:st≠[]):∃ dn l,st=dn++[l]:=⟨st.dropLast,st.getLast h,(List.dropLast_concat_getLast h).symm⟩
theorem QM {ws:List Bs} (h:(fI ws).2=true):ws=[(fI ws).1.nm.data.toList,bsV (fI ws).1.a (fI ws).1.b (fI ws).1.c]:=by
 match ws,h with
 |[x,y],h=>
  have h1:okP (ba y)=true:=h;have h2:=(pO h1).2;show [x,y]=[(ba x).data.toList,bsV (eS (ba y)) (eT (ba y)) (eU (ba y))];unfold bsV;rw [←h2,Sc.cQ,Sc.cQ]
theorem Ch {ws:List Bs} (h:(nU ws).2=true):ws=[(nU ws).1.lb.data.toList,Lib.itoa (nU ws).1.to]:=by
 match ws,h with
 |[x,y],h=>
  have h1:Sc.lT y 127=true:=h;show [x,y]=[(ba x).data.toList,Lib.itoa (Sc.lS y 127)];cases hr:Sc.oQ y with
  |none=>rw [(Sc.kU hr 127).2] at h1;cases h1
  |some n=>
   by_cases hm:(n:Int)≤127
   · rw [(Sc.MN hr hm).1,Sc.cQ,gC (by omega),(Sc.GY hr).1]
     simp
   · rw [(Sc.QA hr hm).2] at h1;cases h1
theorem ZA {st st':List Nd} {x:Bs} {ws:List Bs} (h:cK st x ws=some st'):xE st'=xE st++[x::ws]∧st'≠[]:=by
 unfold cK at h
 split at h
 · rename_i hx
   split at h
   · rename_i hs
     unfold gJ at h
     split at h
     · rename_i hw
       cases h;subst hs hx hw;exact ⟨rfl,by simp⟩
     · cases h
   · cases h
 · split at h
   · cases h
   · rename_i hs
     split at h
     · rename_i hx
       unfold fC at h
       split at h
       · rename_i hp
         cases h;refine ⟨?_,by simp⟩;rw [sC hs,hx]
         have:=QM hp
         show xE st++([IZ,_,_]::[])=_;rw [←this]
       · cases h
     · split at h
       · rename_i hx
         unfold iI at h
         split at h
         · rename_i hp
           cases h;obtain ⟨dn,l,rfl⟩:=QL hs;rw [oZ] at hp;rw [dX];refine ⟨?_,by simp⟩;refine JC dn (l:=l) rfl ?_
           have:=QM hp.1
           show (l.cx++[(fI ws).1]).map lU++l.ed.map mB=(l.cx.map lU++l.ed.map mB)++[x::ws];rw [hp.2,hx,this];simp only [List.map_append,List.map_nil,List.append_nil,List.map_cons];rw [←this];show _++[lU _]=_;unfold lU;rw [←this];rfl
         · cases h
       · split at h
         · rename_i hx
           unfold eQ at h
           split at h
           · rename_i hp
             cases h;obtain ⟨dn,l,rfl⟩:=QL hs;rw [dX];refine ⟨?_,by simp⟩;refine JC dn (l:=l) rfl ?_
             have:=Ch hp
             show l.cx.map lU++(l.ed++[(nU ws).1]).map mB=(l.cx.map lU++l.ed.map mB)++[x::ws];rw [hx];simp only [List.map_append,List.map_nil,List.map_cons,List.append_assoc];unfold mB;rw [←this];rfl
           · cases h
         · cases h
theorem JD:∀ {L:List (List Bs)} {st st':List Nd},cC st L=some st'→xE st'=xE st++L
 |[],st,st',h=>by cases h;simp
 |[]::L,st,st',h=>by cases h
 |(x::ws)::L,st,st',h=>by
  unfold cC at h;cases ht:cK st x ws with
  |none=>rw [ht] at h;cases h
  |some s=>
   rw [ht] at h;rw [JD h,(ZA ht).1,List.append_assoc];rfl
theorem ZB {t:ByteArray} {G:List Nd} (h:lX t=some G):eO G=true∧kX G=t:=by
 unfold lX at h
 split at h
 · rename_i hE
   obtain ⟨f1,f2,f3⟩:=tC hE;cases hr:eY (Sc.cB t 1048576) with
   |none=>rw [hr] at h;cases h
   |some st=>
    rw [hr] at h
    simp only at h
    split at h
    · rename_i hm
      obtain rfl:st=G:=Option.some.inj h;refine ⟨hm,?_⟩;have hne:st≠[]:=by rintro rfl;cases hm
      have hL:kI st=Sc.cB t 1048576:=by
       rw [xG hne];cases hl:Sc.cB t 1048576 with
       |nil=>rw [hl] at hr;cases hr
       |cons a r=>
        rw [hl] at hr;have hr':(if a=[tB] then cC [] r else none)=some st:=hr
        by_cases ha:a=[tB]
        · rw [if_pos ha] at hr'
          rw [JD hr',ha];rfl
        · rw [if_neg ha] at hr'
          cases hr'
      unfold kX;rw [hL,f2,Sc.kL]
    · cases h
 · cases h
end Go.Proofs.YtmnhnofnlcbliaaGreatDoor.Lo
namespace Go.Proofs.YtmnhnofnlcbliaaGreatDoor.Lo
open Go.RowKit
open Sc (Bs ba isW isL wB aW aM aK)
set_option maxRecDepth 100000
open Sc (KeepP aB aG Bs ba aM)
open Sc (KeepP aB aG Bs ba)
open Sc (KeepP aB aG Bs ba aI)
open Sc (KeepP aB aG Bs ba)
open Go.ChangeShapes Go.WideShapes Go.ChangeAt Go.RowKit
theorem nM:∀ (L M:List (List Bs)) {st s:List Nd},cC st L=some s→cC st (L++M)=cC s M
 |[],M,st,s,h=>by cases h;rfl
 |[]::L,M,st,s,h=>by cases h
 |(y::vs)::L,M,st,s,h=>by
  simp only [List.cons_append,cC] at h ⊢;cases ht:cK st y vs with
  |none=>rw [ht] at h;cases h
  |some s'=>rw [ht] at h;exact nM L M h
theorem QN {p:Pn} (h:bB p.a p.b p.c=true):fI [p.nm.data.toList,bsV p.a p.b p.c]=(p,true):=by
 obtain ⟨h0,h1,h2,h3⟩:=rI h;show ((⟨ba p.nm.data.toList,eS (ba (bsV p.a p.b p.c)),eT (ba (bsV p.a p.b p.c)),eU (ba (bsV p.a p.b p.c))⟩:Pn),okP (ba (bsV p.a p.b p.c)))=(p,true);unfold bsV;rw [Sc.kL,Sc.kL,h0,h1,h2,h3]
theorem Ci {e:Eg} (h0:0≤e.to) (h1:e.to≤127):nU [e.lb.data.toList,Lib.itoa e.to]=(e,true):=by
 have hr:Sc.oQ (Lib.itoa e.to)=some e.to.toNat:=by rw [gC h0];exact Sc.PZ (by omega)
 obtain ⟨q1,q2⟩:=Sc.MN (most:=127) hr (by omega);show ((⟨ba e.lb.data.toList,Sc.lS (Lib.itoa e.to) 127⟩:Eg),Sc.lT (Lib.itoa e.to) 127)=(e,true);rw [q1,q2,Sc.kL,Int.toNat_of_nonneg h0]
theorem AU (dn:List Nd):∀ (P:List Pn) (l:Nd),l.ed=[]→(∀ p ∈ P,bB p.a p.b p.c=true)→cC (dn++[l]) (P.map lU)=some (dn++[⟨l.nm,l.a,l.b,l.c,l.cx++P,[]⟩])
 |[],l,he,_=>by
  show some (dn++[l])=_;rw [List.append_nil,←he]
 |p::P,l,he,h=>by
  have h1:=QN (h p (by simp))
  have ht:cK (dn++[l]) QI [p.nm.data.toList,bsV p.a p.b p.c]=some (dn++[oX p l]):=by
   unfold cK;rw [if_neg (by decide),if_neg (by simp),if_neg (by decide),if_pos rfl];unfold iI;rw [h1,if_pos ⟨rfl,by rw [oZ,he]⟩,dX]
  show cC (dn++[l]) ((QI::[p.nm.data.toList,bsV p.a p.b p.c])::P.map lU)=_;unfold cC;rw [ht];show cC (dn++[oX p l]) (P.map lU)=_;rw [AU dn P (oX p l) he fun q hq=>h q (by simp [hq])];simp [oX]
theorem xH (dn:List Nd):∀ (P:List Eg) (l:Nd),(∀ e ∈ P,0≤e.to∧e.to≤127)→cC (dn++[l]) (P.map mB)=some (dn++[⟨l.nm,l.a,l.b,l.c,l.cx,l.ed++P⟩])
 |[],l,_=>by
  show some (dn++[l])=_;rw [List.append_nil]
 |p::P,l,h=>by
  have h1:=Ci (h p (by simp)).1 (h p (by simp)).2
  have ht:cK (dn++[l]) wTo [p.lb.data.toList,Lib.itoa p.to]=some (dn++[oY p l]):=by
   unfold cK;rw [if_neg (by decide),if_neg (by simp),if_neg (by decide),if_neg (by decide),if_pos rfl];unfold eQ;rw [h1,if_pos rfl,dX]
  show cC (dn++[l]) ((wTo::[p.lb.data.toList,Lib.itoa p.to])::P.map mB)=_;unfold cC;rw [ht];show cC (dn++[oY p l]) (P.map mB)=_;rw [xH dn P (oY p l) fun q hq=>h q (by simp [hq])];simp [oY]
def Fa (n:Nd):Prop:=(∀ p ∈ n.cx,bB p.a p.b p.c=true)∧∀ e ∈ n.ed,0≤e.to∧e.to≤127
theorem AV (dn:List Nd) {n:Nd} (h:Fa n):cC (dn++[⟨n.nm,n.a,n.b,n.c,[],[]⟩]) (dG n)=some (dn++[n]):=by
 unfold dG;rw [nM _ _ (AU dn n.cx ⟨n.nm,n.a,n.b,n.c,[],[]⟩ rfl h.1),xH dn n.ed _ h.2];rfl
theorem AW:∀ (r dn:List Nd),dn≠[]→(∀ n ∈ r,Fa n∧bB n.a n.b n.c=true)→cC dn (eX r)=some (dn++r)
 |[],dn,_,_=>by
  show some dn=_;rw [List.append_nil]
 |n::r,dn,hd,h=>by
  obtain ⟨h1,h2⟩:=h n (by simp);have hp:=QN (p:=⟨n.nm,n.a,n.b,n.c⟩) h2
  have ht:cK dn IZ [n.nm.data.toList,bsV n.a n.b n.c]=some (dn++[⟨n.nm,n.a,n.b,n.c,[],[]⟩]):=by
   unfold cK;rw [if_neg (by decide),if_neg hd,if_pos rfl];unfold fC;rw [hp,if_pos rfl]
  have e:eX (n::r)=(IZ::[n.nm.data.toList,bsV n.a n.b n.c])::(dG n++eX r):=by simp [eX];rfl
  rw [e];unfold cC;rw [ht];show cC (dn++[⟨n.nm,n.a,n.b,n.c,[],[]⟩]) (dG n++eX r)=_;rw [nM _ _ (AV dn h1),AW r (dn++[n]) (by simp) fun m hm=>h m (by simp [hm])]
  simp
theorem ZC {G:List Nd} (h:eO G=true):lX (kX G)=some G:=by
 obtain ⟨k1,k2⟩:=AH h;obtain ⟨g1,g2,g3,g4⟩:=oT h;have hsz:(kX G).size≤1048576:=by unfold kX;rw [Sc.mY];exact k2
 have hsc:Sc.bI (kX G).data.toList [] [] []= .ok (kI G):=by
  unfold kX;rw [Sc.cQ,Sc.mW _ _ k1];rfl
 have hns:¬ (1048576:Int)<((kX G).size:Int):=by omega
 have hE:Sc.eA (kX G) 1048576=0:=by unfold Sc.eA;rw [if_neg hns,hsc];rfl
 have hL:Sc.cB (kX G) 1048576=kI G:=by unfold Sc.cB;rw [if_neg hns,hsc];rfl
 have hR:eY (kI G)=some G:=by
  cases G with
  |nil=>cases h
  |cons n r=>
   rw [xG (by simp)];show (if [tB]=[tB] then cC [] (xE (n::r)) else none)=_;rw [if_pos rfl]
   have hok:∀ m ∈ n::r,Fa m:=fun m hm=>by
    obtain ⟨a1,a2⟩:=g3 m hm;refine ⟨fun p hp=>(a1.2 p hp).2,fun e he=> ?_⟩;have h':=h;unfold eO at h';simp only [Bool.and_eq_true,decide_eq_true_eq,List.all_eq_true] at h'
    have:=h'.2 m hm
    unfold dE at this;simp only [Bool.and_eq_true,decide_eq_true_eq] at this;obtain ⟨c1,c2,c3⟩:=wS this.2 e he;omega
   have hn0:(⟨n.nm,n.a,n.b,n.c,[],[]⟩:Nd)=nd0:=by
    have h':=h;unfold eO jI at h';simp only [Bool.and_eq_true,decide_eq_true_eq] at h';obtain ⟨⟨⟨_,⟨q1,q2,q3,q4⟩,_⟩,_⟩,_⟩:=h';have q5:n.nm=⟨#[]⟩:=by rw [←Sc.kL n.nm,List.eq_nil_of_length_eq_zero (l:=n.nm.data.toList) (by rw [Sc.aI];exact q1)];rfl
    rw [q2,q3,q4,q5];rfl
   show cC [] ([oA]::(dG n++eX r))=_;unfold cC;rw [show cK [] oA []=some ([]++[nd0]) from rfl];show cC ([]++[nd0]) (dG n++eX r)=_
   rw [←hn0,nM _ _ (AV [] (hok n (by simp))),AW r ([]++[n]) (by simp) fun m hm=>⟨hok m (by simp [hm]),by
    obtain ⟨i,hi,rfl⟩:=List.getElem_of_mem hm
    have:=g4 (i+1) (by simpa using hi) (by omega)
    simpa using this.2⟩]
   simp
 unfold lX;rw [if_pos hE,hL,hR]
 simp only
 rw [if_pos h]
end Go.Proofs.YtmnhnofnlcbliaaGreatDoor.Lo
namespace Go.Proofs.YtmnhnofnlcbliaaGreatDoor
open Go.RowKit
set_option maxRecDepth 100000
set_option maxHeartbeats 1600000 in
theorem JE {P Q:Pg} {v1 v2 v3 u1 u2 u3:Value} {w:World} (hp:PgAt w P v1 v2 v3) (hq:PgAt w Q u1 u2 u3) (hd:P.d.length≤9223372036854775807) (he:P.p.length≤9223372036854775807) (ho:P.o.length≤9223372036854775807):
 Calls Tryz.prog 48 #[.agg #[.string P.nm,.int .i64 P.a,.int .i64 P.b,.int .i64 P.c,v1,v2,v3],.agg #[.string Q.nm,.int .i64 Q.a,.int .i64 Q.b,.int .i64 Q.c,u1,u2,u3]] w fun x w'=>x= .returned (.bool (eqB P Q))∧Below w.heap.size w w':=by
 have H1:Hid (∀ w1,Below w.heap.size w w1→Calls Tryz.prog 60 #[v1,u1] w1 fun e w'=>e= .returned (.bool (eqB P.d Q.d))∧Below w1.heap.size w1 w'):=fun w1 h=>rU (hp.1.below h) (hq.1.below h) hd
 have H2:Hid (∀ w1,Below w.heap.size w w1→Calls Tryz.prog 60 #[v2,u2] w1 fun e w'=>e= .returned (.bool (eqB P.p Q.p))∧Below w1.heap.size w1 w'):=fun w1 h=>rU (hp.2.1.below h) (hq.2.1.below h) he
 have H3:Hid (∀ w1,Below w.heap.size w w1→Calls Tryz.prog 60 #[v3,u3] w1 fun e w'=>e= .returned (.bool (eqB P.o Q.o))∧Below w1.heap.size w1 w'):=fun w1 h=>rU (hp.2.2.below h) (hq.2.2.below h) ho
 have HR:Hid (eqB P Q=(decide (P.nm.toList=Q.nm.toList)&&(decide (P.a=Q.a)&&decide (P.b=Q.b)&&decide (P.c=Q.c))&&eqB P.d Q.d&&eqB P.p Q.p&&eqB P.o Q.o)):=by
  refine BS ?_;obtain ⟨n,a,b,c,d,e,o⟩:=P;obtain ⟨n',a',b',c',d',e',o'⟩:=Q;simp only [Bool.and_eq_true,decide_eq_true_eq,eW,Pg.mk.injEq];exact ⟨fun ⟨h1,h2,h3,h4,h5,h6,h7⟩=>⟨⟨⟨⟨by rw [h1],⟨h2,h3⟩,h4⟩,h5⟩,h6⟩,h7⟩,fun ⟨⟨⟨⟨h1,⟨h2,h3⟩,h4⟩,h5⟩,h6⟩,h7⟩=>⟨bC h1,h2,h3,h4,h5,h6,h7⟩⟩
 obtain ⟨a1,c1,rfl⟩:=hp.1.sl;obtain ⟨a2,c2,rfl⟩:=hp.2.1.sl;obtain ⟨a3,c3,rfl⟩:=hp.2.2.sl;obtain ⟨b1,d1,rfl⟩:=hq.1.sl;obtain ⟨b2,d2,rfl⟩:=hq.2.1.sl;obtain ⟨b3,d3,rfl⟩:=hq.2.2.sl;clear hp hq hd he ho;have hv:=Ee P.a P.b P.c Q.a Q.b Q.c;have hgd:=rA;obtain ⟨n,a,b,c,d,e,o⟩:=P;obtain ⟨n',a',b',c',d',e',o'⟩:=Q
 simp only at*
 generalize eqB d d'=x1 at*;generalize eqB e e'=x2 at*;generalize eqB o o'=x3 at*;generalize (decide (a=a')&&decide (b=b')&&decide (c=c'))=xv at*;generalize d.length=l1 at*;generalize e.length=l2 at*;generalize o.length=l3 at*;generalize d'.length=m1 at*;generalize e'.length=m2 at*;generalize o'.length=m3 at*
 have HB:Hid (BxP ((w.alloc (.cells #[.string n,.int .i64 a,.int .i64 b,.int .i64 c,.slice a1 l1 c1,.slice a2 l2 c2,.slice a3 l3 c3] 54)).alloc (.cells #[.string n',.int .i64 a',.int .i64 b',.int .i64 c',.slice b1 m1 d1,.slice b2 m2 d2,.slice b3 m3 d3] 54)) w.heap.size n a b c (.slice a1 l1 c1) (.slice a2 l2 c2) (.slice a3 l3 c3)∧BxP ((w.alloc (.cells #[.string n,.int .i64 a,.int .i64 b,.int .i64 c,.slice a1 l1 c1,.slice a2 l2 c2,.slice a3 l3 c3] 54)).alloc (.cells #[.string n',.int .i64 a',.int .i64 b',.int .i64 c',.slice b1 m1 d1,.slice b2 m2 d2,.slice b3 m3 d3] 54)) (w.heap.size+1) n' a' b' c' (.slice b1 m1 d1) (.slice b2 m2 d2) (.slice b3 m3 d3)):=⟨gE _ _ _ _ _ _ _ _ _ _ (BxP.new rfl _ _ _ _ _ _ _) (aC _ _),BxP.new (by simp) _ _ _ _ _ _ _⟩
 have HK:Hid (KeepP fun w1=>BxP w1 w.heap.size n a b c (.slice a1 l1 c1) (.slice a2 l2 c2) (.slice a3 l3 c3)∧BxP w1 (w.heap.size+1) n' a' b' c' (.slice b1 m1 d1) (.slice b2 m2 d2) (.slice b3 m3 d3)):=(gE _ _ _ _ _ _ _ _).and (gE _ _ _ _ _ _ _ _);have t1:True:=trivial;have t2:True:=trivial
 by_cases hn:n.toList=n'.toList
 · cases xv
   · go_enter Tryz.func48,Tryz.ntmps48
     go_wp2
     go_ret;exact ⟨aD (by rw [HR.out];simp),aS _ _ _⟩
   · go_enter Tryz.func48,Tryz.ntmps48
     cases x1
     · go_wp2_with (go_at_call 60;refine (H1.out _ (aS _ _ _)).mono ?_;rintro x w1 ⟨rfl,ok⟩)
       go_ret;exact ⟨aD (by rw [HR.out];simp),aA (aS _ _ _) ok⟩
     · cases x2
       · go_wp2_with (first
          |(have _t:=t1;go_at_call 60;refine (H1.out _ (aS _ _ _)).mono ?_;rintro x w1 ⟨rfl,ok⟩;clear t1;have HB1:=aB (HK.out _ _ HB.out ok);obtain ⟨⟨p0,p1,p2,p3,p4,p5,p6,p7⟩,⟨q0,q1,q2,q3,q4,q5,q6,q7⟩⟩:=HB1.out)
          |(go_at_call 60;refine (H2.out _ (aA (aS _ _ _) ok)).mono ?_;rintro x w2 ⟨rfl,ok2⟩))
         go_ret;exact ⟨aD (by rw [HR.out];simp),aA (aA (aS _ _ _) ok) ok2⟩
       · go_wp2_with (first
          |(have _t:=t1;go_at_call 60;refine (H1.out _ (aS _ _ _)).mono ?_;rintro x w1 ⟨rfl,ok⟩;clear t1;have HB1:=aB (HK.out _ _ HB.out ok);obtain ⟨⟨p0,p1,p2,p3,p4,p5,p6,p7⟩,⟨q0,q1,q2,q3,q4,q5,q6,q7⟩⟩:=HB1.out)
          |(have _t:=t2;go_at_call 60;refine (H2.out _ (aA (aS _ _ _) ok)).mono ?_;rintro x w2 ⟨rfl,ok2⟩;clear t2;have HB2:=aB (HK.out _ _ HB1.out ok2);clear p0 p1 p2 p3 p4 p5 p6 p7 q0 q1 q2 q3 q4 q5 q6 q7;obtain ⟨⟨p0,p1,p2,p3,p4,p5,p6,p7⟩,⟨q0,q1,q2,q3,q4,q5,q6,q7⟩⟩:=HB2.out)
          |(go_at_call 60;refine (H3.out _ (aA (aA (aS _ _ _) ok) ok2)).mono ?_;rintro x w3 ⟨rfl,ok3⟩))
         go_ret;exact ⟨aD (by rw [HR.out];simp [hn]),aA (aA (aA (aS _ _ _) ok) ok2) ok3⟩
 · go_enter Tryz.func48,Tryz.ntmps48
   go_wp2
   go_ret;exact ⟨aD (by rw [HR.out];simp [hn]),aS _ _ _⟩
theorem UG:jD [[],[],[]]=true:=by
 unfold jD;refine @decide_eq_true _ (Classical.propDecidable _) ?_;have h:kB [[],[],[]]=[]:=rfl;rw [h];exact List.nodup_nil
end Go.Proofs.YtmnhnofnlcbliaaGreatDoor
