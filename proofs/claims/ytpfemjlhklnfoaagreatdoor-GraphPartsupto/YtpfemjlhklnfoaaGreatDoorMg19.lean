/- Gd4: their declarations that are needed, laid in one text, remarks and blanks left out. -/
import Derived.Test.YtpfemjlhklnfoaaGreatDoorMg10
namespace Go.Proofs.YtpfemjlhklnfoaaGreatDoor
open Go.RowKit Go.Maps Go.WideMaps Go.Sort
set_option maxRecDepth 100000
def StS (w:World) (v:Value) (q c:Nat) (S:List Nat) (wr:World):Prop:=(Below w.heap.size w wr∧BxG wr w.heap.size v)∧OwnN wr (w.heap.size+1) (.slice (some ⟨q,0,none⟩) S.length c) S
theorem fW (w:World) (v:Value) (q c:Nat) (S:List Nat):KeepP (StS w v q c S):=fun _ _ h hb=>⟨⟨aB h.1.1 hb,aW _ _ _ _ h.1.2 hb⟩,h.2.below hb⟩
theorem StS.app {w:World} {v:Value} {q c t:Nat} {S:List Nat} {wr w1:World} {v1:Value} (h:StS w v q c S wr) (ho:w1.ownsRow (w.heap.size+1) 3 1 v1 (S.length+1) (gG S++[.int .i64 (t:Int)])) (hg:wr.grownBy w1 (some q)):∃ q2 c2,v1= .slice (some ⟨q2,0,none⟩) (S.length+1) c2∧StS w v q2 c2 (S++[t]) w1:=by
 have hq:=(World.ownsRow.lt h.2 q rfl).1;obtain ⟨q2,c2,rfl,_⟩:=ho.form (by omega);refine ⟨q2,c2,rfl,⟨h.1.1.grown hg h.1.1.size (fun k hk=>by cases hk;omega),hg.cell h.1.2.1 (by simp;omega),Nat.lt_of_lt_of_le h.1.2.2 hg.size⟩,?_⟩;unfold OwnN;rw [gH,List.length_append];exact ho
theorem OwnN.roomS {w:World} {B q c:Nat} {S:List Nat} (h:OwnN w B (.slice (some ⟨q,0,none⟩) S.length c) S):S.length≤c:=by
 rcases h.2 with ⟨e,_⟩|⟨g',cap',cur,hv,_,_,h1,_⟩
 · cases e
 · cases hv;exact h1
theorem yL {n:Nat} {S:List Nat} {t:Int} (h:inP S t=true):gW n S t=S:=by
 unfold gW;rw [if_neg];rintro ⟨h0,_,h2⟩;obtain ⟨k,rfl⟩:=Int.eq_ofNat_of_zero_le h0;exact h2 (by rw [Int.toNat_natCast];exact hI.1 h)
def fD (S:List Nat) (k:Nat):List Nat:=(List.range k).filter fun i=>decide (i ∈ S)
theorem tQ (S:List Nat) (k:Nat):fD S (k+1)=fD S k++(if k ∈ S then [k] else []):=by
 unfold fD;rw [List.range_succ,List.filter_append]
 by_cases h:k ∈ S
 · simp [h]
 · simp [h]
theorem wH (S:List Nat) (k:Nat):(fD S k).length≤k:=by
 unfold fD
 have:=List.length_filter_le (fun i=>decide (i ∈ S)) (List.range k)
 rwa [List.length_range] at this
theorem qB {v:Value} {w:World} (hG:NodesAt w v []):
 Calls Tryz.prog 33 #[.agg #[v]] w fun e w'=>gX w [] e w':=by
 obtain ⟨ad,cap,rfl,_⟩:=hG;have HQ:Hid (∀ w',Below w.heap.size w w'→gX w [] (.returned (.slice none 0 0)) w'):=fun w' hb=>⟨none,0,rfl,⟨rfl,Or.inl ⟨rfl,rfl⟩⟩,hb⟩
 go_enter Tryz.func33,Tryz.ntmps33
 go_wp2
 go_ret;exact HQ.out _ (aD _ _)
set_option maxHeartbeats 25600000 in
theorem oB {G:List Nd} {g o cap:Nat} {w:World} (hn:0<G.length) (hx:∀ i (h:i<G.length),∃ vc ve,NdIn w g (o+i*6) G[i] vc ve) (hB:GrB G):
 Calls Tryz.prog 33 #[.agg #[.slice (some ⟨g,o,none⟩) G.length cap]] w fun e w'=>gX w G e w':=by
 have HX:=aA hx;have HSZ:=aA hB.2;have hb1:=hB.1.1;have HQ:Hid (∀ ad c w',OwnN w' (w.heap.size+1) (.slice ad (cP G).length c) (cP G)→Below w.heap.size w w'→gX w G (.returned (.slice ad (cP G).length c)) w'):=fun ad c w' h hb=>⟨ad,c,rfl,h.base (by omega),hb⟩
 have HST0:Hid (StS w (.slice (some ⟨g,o,none⟩) G.length cap) (w.heap.size+1) 1 [0] ((w.alloc (.cells #[.slice (some ⟨g,o,none⟩) G.length cap] 55)).alloc (.cells #[.int .i64 0] 3))):=by
  refine ⟨⟨aM _ _ _,aW _ _ _ _ (BxG.new rfl _) (aD _ _)⟩,⟨rfl,Or.inr ⟨w.heap.size+1,1,#[.int .i64 0],rfl,Nat.le_refl _,?_,Nat.le_refl _,by unfold maxLen;omega,rfl,rfl⟩⟩⟩;have e:=heap_alloc_new (w.alloc (.cells #[.slice (some ⟨g,o,none⟩) G.length cap] 55)) (.cells #[.int .i64 0] 3)
  simpa using e
 have hn0:((G.length:Int)==0)=false:=by rw [beq_eq_false_iff_ne];omega
 clear hx hB
 go_enter Tryz.func33,Tryz.ntmps33
 go_wp2_with fail
 go_loopw [3,4] (fun v3 v4 wr=>∃ (i q c:Nat) (S:List Nat),v3= .slice (some ⟨q,0,none⟩) S.length c∧v4= .int .i64 (i:Nat)∧RJ G i S∧StS w (.slice (some ⟨g,o,none⟩) G.length cap) q c S wr) (fun _ v4 _=>G.length+1 - (intOf v4).toNat)
 case atStart=>exact ⟨0,w.heap.size+1,1,[0],rfl,rfl,RJ.one hn,HST0.out⟩
 case round=>
  clear HST0;obtain ⟨i,q,c,S,rfl,rfl,hrj,hst⟩:=hrel;have HRJ:=aA hrj;have HST:=aA hst;have hSl:=hrj.ri.len
  by_cases hlt:i<S.length
  · have hqn:=hrj.ri.lt _ (List.getElem_mem hlt)
    obtain ⟨vc,ve,hndw⟩:=HX.out S[i] hqn;have hnd:=hndw.below hst.1.1;have hin:=OwnN.at hst.2 hlt;have HED:Hid (edA G S[i]=G[S[i]].ed):=oM hqn;have hle:=(HSZ.out _ (List.getElem_mem hqn)).2;have HNX:Hid (∀ S',fK G.length S (edA G S[i])=S'→RI G.length S'→i+1≤S'.length→RJ G (i+1) S'):=fun S' h1 h2 h3=>HRJ.out.next hlt h1 h2 h3
    rw [HED.out] at HNX;generalize hr:S[i]=r at*;have hqi:(r:Int)<G.length:=by omega
    have hq0:(0:Int)≤r:=by omega
    obtain ⟨ae,ce,rfl⟩:=hnd.2.1.2.sl;obtain ⟨ac,cc,rfl⟩:=hnd.2.1.1.sl;generalize G[r]=x at*;have HEA:Hid (∀ w1,Below w.heap.size w w1→EdgesAt w1 (.slice ae x.ed.length ce) x.ed):=fun w1 h1=>hndw.2.1.2.below h1
    have HK:Hid (KeepP fun w1=>StS w (.slice (some ⟨g,o,none⟩) G.length cap) q c S w1∧NdIn w1 g (o+r*6) x (.slice ac x.cx.length cc) (.slice ae x.ed.length ce)∧InN w1 q i (r:Int)):=(fW _ _ _ _ _).and ((kX _ _ _ _ _).and (qO _ _ _));have HO:Hid (StS w (.slice (some ⟨g,o,none⟩) G.length cap) q c S wr∧NdIn wr g (o+r*6) x (.slice ac x.cx.length cc) (.slice ae x.ed.length ce)∧InN wr q i (r:Int)):=⟨hst,hnd,hin⟩;have hil:(i:Int)<S.length:=by omega
    have hi0:(0:Int)≤i:=by omega
    have hSc:=hst.2.roomS;clear hrj hst hnd hndw hin HED
    go_wp2_with fail
    refine aX HK (by kernel_rfl) (by kernel_rfl) (by first|exact HO.out|exact HK.out.drew HO.out) ?_;intro C HIN HOUT;clear HO
    repeat
     (with_reducible refine wpQuiet_step (fun K hK=> ?_)
      go_simp
      first
       |(refine hK _ ?_;clear hK K)
       |(apply Exists.intro;refine ⟨fun w1 hC=> ?_,hK _ ?_⟩;(focus ((first|(exact rfl)|(obtain ⟨⟨⟨hbw,y0,y1⟩,_⟩,⟨⟨x0,x1,x2,x3,x4,x5⟩,_,x6⟩,k0,k1⟩:=HOUT.out w1 hC;clear hC;go_simp;first|done|exact rfl));done));clear hK K))
    refine wpQuiet_nil ?_;intro wn hC;have HO:=aA (HOUT.out _ hC);clear hC HIN HOUT C;obtain ⟨⟨⟨hbw,y0,y1⟩,_⟩,⟨⟨x0,x1,x2,x3,x4,x5⟩,_,x6⟩,k0,k1⟩:=HO.out;have HST2:=aA HO.out.1;clear HO HK HST x0 x1 x2 x3 x4 x5 x6 k0 k1 y0 y1 hbw;generalize hlx:x.ed.length=le at*;have HLX:=aA hlx;clear hlx
    go_wp2_with fail
    go_loopw [3,6] (fun v3 vj wq=>∃ (j q' c':Nat) (S':List Nat),v3= .slice (some ⟨q',0,none⟩) S'.length c'∧vj= .int .i64 (j:Nat)∧j≤le∧(RI G.length S'∧S<+:S'∧fK G.length S' (x.ed.drop j)=fK G.length S x.ed)∧StS w (.slice (some ⟨g,o,none⟩) G.length cap) q' c' S' wq) (fun _ vj _=>le - (intOf vj).toNat)
    case atStart=>exact ⟨0,q,c,S,rfl,rfl,Nat.zero_le _,⟨HRJ.out.ri,List.prefix_refl _,rfl⟩,HST2.out⟩
    case round=>
     clear HST2;obtain ⟨j,q',c',S',rfl,rfl,hj,⟨hri,hpre,hvis⟩,hst'⟩:=hrel;have HST:=aA hst';have HRI:=aA hri;have HPRE:=aA hpre;have HVIS:=aA hvis;have hea:=HEA.out wr hst'.1.1;have hS'l:=hri.len
     by_cases hjl:j<le
     · have hjx:j<x.ed.length:=by have:=HLX.out;omega
       obtain ⟨gp,op,rfl,hcp,hei⟩:∃ gp op,ae=some ⟨gp,op,none⟩∧le≤ce∧EgIn wr gp (op+j*2) x.ed[j]:=by
        obtain ⟨a1,c1,hv,hc,hl⟩:=hea;cases hv
        rcases hl with h|⟨g,o,rfl,_,hs⟩
        · rw [h] at hjx;cases hjx
        · exact ⟨g,o,rfl,by have:=HLX.out;omega,hs j hjx⟩
       have HVS:Hid (fK G.length (gW G.length S' x.ed[j].to) (x.ed.drop (j+1))=fK G.length S x.ed):=by
        unfold Hid;rw [←jV hjx];exact hvis
       generalize x.ed[j]=ee at*;obtain ⟨elb,eto⟩:=ee
       simp only at HVS
       have HIN:Hid (Calls Tryz.prog 73 #[.slice (some ⟨q',0,none⟩) S'.length c',.int .i64 eto] wr fun e w'=>e= .returned (.bool (inP S' eto))∧StS w (.slice (some ⟨g,o,none⟩) G.length cap) q' c' S' w'):=(qR hst'.2 (by omega)).mono fun e w' ⟨h1,h2⟩=>⟨h1,fW _ _ _ _ _ _ _ HST.out h2⟩
       obtain ⟨⟨e0,e1⟩,e6⟩:=hei
       simp only at e0 e1
       clear hst' hea hri hpre hvis;cases hip:inP S' eto
       · rw [hip] at HIN
         by_cases hr0:0≤eto∧eto<(G.length:Int)
         · obtain ⟨t,rfl⟩:=Int.eq_ofNat_of_zero_le hr0.1
           have htn:t<G.length:=by omega
           have hts:t ∉ S':=fun h=>by rw [hI.2 h] at hip;cases hip
           have hd1:(0:Int)≤(t:Int):=hr0.1;have hd3:(t:Int)<(G.length:Int):=hr0.2;rw [mE htn hts] at HVS;have hri2:=HRI.out.snoc htn hts;have HRI2:=aA hri2;have hl2:=hri2.len;rw [List.length_append,List.length_singleton] at hl2;clear hri2 hts hip hr0
           go_wp2_with (first
            |(go_at_call 73;refine HIN.out.mono ?_;rintro e w1 ⟨rfl,hs1⟩;have HS1:=aA hs1;have y0:=hs1.1.2.1;have HS2:=aA (fW _ _ _ _ _ _ _ hs1 (aD w1 (.cells #[.int .i64 (t:Int)] 3)));have HAP:Hid (World.ownsRow (w1.alloc (.cells #[.int .i64 (t:Int)] 3)) (w.heap.size+1) 3 1 (.slice (some ⟨q',0,none⟩) S'.length c') S'.length (gG S')):=HS2.out.2;have hsz:=HS2.out.1.2.2;have HCE:Hid (∀ j u,[Value.int .i64 (t:Int)][j]? =some u→(w1.alloc (.cells #[.int .i64 (t:Int)] 3)).cell? ((⟨w1.heap.size,0,none⟩:Addr).add j)=some u):=(fun j u hju=>by
               cases j with
               |zero=>simp at hju;subst hju;simp [Addr.add]
               |succ j=>simp at hju);clear hs1)
            |(at_builtin;refine eL (B:=w.heap.size+1) (n:=S'.length) (m:=1) (news:=[.int .i64 (t:Int)]) iT Tryz.underlying70 rfl (by decide) rfl _ _ rfl rfl HAP.out (by omega) rfl rfl HCE.out (fun u hu=>by rw [List.mem_singleton.1 hu];rfl) (by omega) (by omega) ?_;intro v1 w2 ho hgr hat;obtain ⟨q2,c2,rfl,hst3⟩:=HS2.out.app ho hgr;have HR:=aA hst3;clear ho hgr hat hst3))
           exact ⟨⟨j+1,q2,c2,S'++[t],by rw [List.length_append];rfl,by go_num,by omega,⟨HRI2.out,HPRE.out.trans (List.prefix_append _ _),HVS.out⟩,HR.out⟩,by simp [intOf];omega⟩
         · have hvo:=mD (n:=G.length) (S:=S') hr0
           rw [hvo] at HVS
           by_cases hneg:0≤eto
           · have hd3:¬ eto<(G.length:Int):=fun h=>hr0 ⟨hneg,h⟩
             clear hvo hr0 hip
             go_wp2_with (go_at_call 73;refine HIN.out.mono ?_;rintro e w1 ⟨rfl,hs1⟩;have HS1:=aA hs1;have y0:=hs1.1.2.1;clear hs1)
             exact ⟨⟨j+1,q',c',S',rfl,by go_num,by omega,⟨HRI.out,HPRE.out,HVS.out⟩,HS1.out⟩,by simp [intOf];omega⟩
           · clear hvo hr0 hip
             go_wp2_with (go_at_call 73;refine HIN.out.mono ?_;rintro e w1 ⟨rfl,hs1⟩;have HS1:=aA hs1;clear hs1)
             exact ⟨⟨j+1,q',c',S',rfl,by go_num,by omega,⟨HRI.out,HPRE.out,HVS.out⟩,HS1.out⟩,by simp [intOf];omega⟩
       · rw [hip] at HIN
         rw [yL hip] at HVS;clear hip
         by_cases hneg:0≤eto
         · by_cases hd3:eto<(G.length:Int)
           · go_wp2_with (go_at_call 73;refine HIN.out.mono ?_;rintro e w1 ⟨rfl,hs1⟩;have HS1:=aA hs1;have y0:=hs1.1.2.1;clear hs1)
             exact ⟨⟨j+1,q',c',S',rfl,by go_num,by omega,⟨HRI.out,HPRE.out,HVS.out⟩,HS1.out⟩,by simp [intOf];omega⟩
           · go_wp2_with (go_at_call 73;refine HIN.out.mono ?_;rintro e w1 ⟨rfl,hs1⟩;have HS1:=aA hs1;have y0:=hs1.1.2.1;clear hs1)
             exact ⟨⟨j+1,q',c',S',rfl,by go_num,by omega,⟨HRI.out,HPRE.out,HVS.out⟩,HS1.out⟩,by simp [intOf];omega⟩
         · go_wp2_with (go_at_call 73;refine HIN.out.mono ?_;rintro e w1 ⟨rfl,hs1⟩;have HS1:=aA hs1;clear hs1)
           exact ⟨⟨j+1,q',c',S',rfl,by go_num,by omega,⟨HRI.out,HPRE.out,HVS.out⟩,HS1.out⟩,by simp [intOf];omega⟩
     · have hje:j=le:=by omega
       subst hje
       have HRN:Hid (RJ G (i+1) S'):=by
        have e0:x.ed.drop j=[]:=by rw [←HLX.out,List.drop_length]
        have e1:=HVIS.out;rw [e0] at e1;have hl:=HPRE.out.length_le;exact HNX.out _ e1.symm HRI.out (by omega)
       clear hri hpre hvis hea hst'
       go_wp2
       exact ⟨⟨i+1,q',c',S',rfl,by go_num,HRN.out,HST.out⟩,by simp [intOf];omega⟩
  · have hie:i=S.length:=by have:=hrj.le;omega
    subst hie;have hdone:=hrj.done
    have HRL:Hid (cP G=fD S G.length):=by
     unfold Hid cP fD;rw [if_neg (by omega),←hdone]
    have hqlt:=(World.ownsRow.lt hst.2 q rfl).2;have hBw:=hst.1.1.size;obtain ⟨wa,rfl⟩:∃ x,x=wr:=⟨wr,rfl⟩;have y0:=hst.1.2.1;have hBG:=hst.1.2.2;clear hrj hst hdone
    go_wp2_with fail
    clear y0
    go_loopw [9,10] (fun v9 vi wq=>∃ (k:Nat) (ao:Option Addr) (co:Nat),v9= .slice ao (fD S k).length co∧vi= .int .i64 (k:Nat)∧k≤G.length∧StS w (.slice (some ⟨g,o,none⟩) G.length cap) q c S wq∧OwnN wq wa.heap.size (.slice ao (fD S k).length co) (fD S k)∧wa.heap.size≤wq.heap.size) (fun _ vi _=>G.length - (intOf vi).toNat)
    case atStart=>exact ⟨0,none,0,rfl,rfl,Nat.zero_le _,HST.out,⟨rfl,Or.inl ⟨rfl,rfl⟩⟩,Nat.le_refl _⟩
    case round=>
     clear HST;obtain ⟨k,ao,co,rfl,rfl,hk,hst,hout,hsz⟩:=hrel;have HST:=aA hst;have HOU:=aA hout;have y0:=hst.1.2.1;have hkl:=wH S k
     by_cases hlt2:k<G.length
     · have HIN:Hid (Calls Tryz.prog 73 #[.slice (some ⟨q,0,none⟩) S.length c,.int .i64 (k:Int)] wr fun e w'=>e= .returned (.bool (inP S (k:Int)))∧StS w (.slice (some ⟨g,o,none⟩) G.length cap) q c S w'∧OwnN w' wa.heap.size (.slice ao (fD S k).length co) (fD S k)∧wa.heap.size≤w'.heap.size):=(qR hst.2 (by omega)).mono fun e w' ⟨h1,h2⟩=>⟨h1,fW _ _ _ _ _ _ _ HST.out h2,HOU.out.below h2,Nat.le_trans hsz h2.size⟩
       have HNK:=aA (tQ S k);clear hst hout;cases hip:inP S (k:Int)
       · have hnk:k ∉ S:=fun h=>by rw [hI.2 h] at hip;cases hip
         rw [if_neg hnk,List.append_nil] at HNK;rw [hip] at HIN;clear hip hnk;generalize hRK:fD S k=R at*
         go_wp2_with (go_at_call 73;refine HIN.out.mono ?_;rintro e w1 ⟨rfl,hs1,ho1,hz1⟩;have HS1:Hid (StS w (.slice (some ⟨g,o,none⟩) G.length cap) q c S w1∧OwnN w1 wa.heap.size (.slice ao R.length co) R∧wa.heap.size≤w1.heap.size):=⟨hs1,ho1,hz1⟩;clear hs1 ho1 hz1)
         exact ⟨⟨k+1,ao,co,by rw [HNK.out],by go_num,by omega,HS1.out.1,by rw [HNK.out];exact HS1.out.2.1,HS1.out.2.2⟩,by simp [intOf];omega⟩
       · rw [if_pos (hI.1 hip)] at HNK
         rw [hip] at HIN;clear hip;generalize hRK:fD S k=R at*
         go_wp2_with (first
          |(go_at_call 73;refine HIN.out.mono ?_;rintro e w1 ⟨rfl,hs1,ho1,hz1⟩;have HS2:Hid (StS w (.slice (some ⟨g,o,none⟩) G.length cap) q c S (w1.alloc (.cells #[.int .i64 (k:Int)] 3))∧World.ownsRow (w1.alloc (.cells #[.int .i64 (k:Int)] 3)) wa.heap.size 3 1 (.slice ao R.length co) R.length (gG R)):=⟨fW _ _ _ _ _ _ _ hs1 (aD _ _),ho1.below (aD _ _)⟩;have hsz2:wa.heap.size≤(w1.alloc (.cells #[.int .i64 (k:Int)] 3)).heap.size:=Nat.le_trans hz1 (aD _ _).size;have HCE:Hid (∀ j u,[Value.int .i64 (k:Int)][j]? =some u→(w1.alloc (.cells #[.int .i64 (k:Int)] 3)).cell? ((⟨w1.heap.size,0,none⟩:Addr).add j)=some u):=(fun j u hju=>by
             cases j with
             |zero=>simp at hju;subst hju;simp [Addr.add]
             |succ j=>simp at hju);clear hs1 ho1 hz1)
          |(at_builtin;refine eL (B:=wa.heap.size) (n:=R.length) (m:=1) (news:=[.int .i64 (k:Int)]) iT Tryz.underlying70 rfl (by decide) rfl _ _ rfl rfl HS2.out.2 hsz2 rfl rfl HCE.out (fun u hu=>by rw [List.mem_singleton.1 hu];rfl) (by omega) (by omega) ?_;intro v1 w2 ho hgr hat;have HF:Hid (StS w (.slice (some ⟨g,o,none⟩) G.length cap) q c S w2∧OwnN w2 wa.heap.size v1 (R++[k])∧wa.heap.size≤w2.heap.size):=(by
             have hrow:∀ b,(Value.slice ao R.length co).ownBlock=some b→wa.heap.size≤b:=fun b hb=>(World.ownsRow.lt HS2.out.2 b hb).1
             refine ⟨⟨⟨HS2.out.1.1.1.grown hgr HS2.out.1.1.1.size (fun b hb=>Nat.le_trans hBw (hrow b hb)),hgr.cell HS2.out.1.1.2.1 (fun e=> ?_),Nat.lt_of_lt_of_le HS2.out.1.1.2.2 hgr.size⟩,HS2.out.1.2.kept hgr (Or.inr fun e=> ?_)⟩,?_,Nat.le_trans hsz2 hgr.size⟩
             · have h3:wa.heap.size≤w.heap.size:=hrow _ e.symm
               omega
             · have h3:wa.heap.size≤q:=hrow q e.symm
               omega
             · unfold OwnN
               rw [gH,List.length_append];exact ho);obtain ⟨ao2,co2,rfl⟩:∃ a b,v1= .slice a (R++[k]).length b:=(by
             rcases HF.out.2.1.2 with ⟨rfl,hn⟩|⟨g',cap',cur,rfl,_⟩
             · exact ⟨none,0,by rw [hn]⟩
             · exact ⟨_,cap',rfl⟩);clear ho hgr hat))
         exact ⟨⟨k+1,ao2,co2,by rw [HNK.out];simp,by go_num,by omega,HF.out.1,by rw [HNK.out];exact HF.out.2.1,HF.out.2.2⟩,by simp [intOf];omega⟩
     · have hke:k=G.length:=by omega
       subst hke
       have HF:Hid (gX w G (.returned (.slice ao (fD S G.length).length co)) wr):=by
        have q2:=HQ.out ao co wr;rw [HRL.out] at q2;exact q2 (hout.base (by omega)) hst.1.1
       clear hst hout
       go_wp2
       go_ret;exact HF.out
theorem qC {G:List Nd} {v:Value} {w:World} (hG:NodesAt w v G) (hB:GrB G):
 Calls Tryz.prog 33 #[.agg #[v]] w fun e w'=>gX w G e w':=by
 cases G with
 |nil=>exact qB hG
 |cons n r=>
  obtain ⟨ad,cap,rfl,hcap,hl⟩:=hG
  rcases hl with h|⟨g,o,rfl,hg,hs⟩
  · cases h
  · exact oB (by simp) hs hB
end Go.Proofs.YtpfemjlhklnfoaaGreatDoor
