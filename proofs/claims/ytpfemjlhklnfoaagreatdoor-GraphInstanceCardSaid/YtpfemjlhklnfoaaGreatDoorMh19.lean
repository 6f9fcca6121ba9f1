/- Gv3, Gl1, St1, Wg1: their declarations that are needed, laid in one text, remarks and blanks left out. -/
import Derived.Test.YtpfemjlhklnfoaaGreatDoorMh18
namespace Go.Proofs.YtpfemjlhklnfoaaGreatDoor
open Go.RowKit Go.Maps Go.WideMaps Go.Sort
set_option maxRecDepth 100000
def GrB (G:List Nd):Prop:=(G.length≤17592186044416∧KQ G≤4611686018427387000)∧∀ n ∈ G,SzN n
def StR (w:World) (v:Value) (q c:Nat) (S:List Nat) (tot:Nat) (wr:World):Prop:=
 (Below w.heap.size w wr∧BxG wr w.heap.size v)∧(CntI wr (w.heap.size+1) tot S tot∧OwnN wr (w.heap.size+1) (.slice (some ⟨q,0,none⟩) S.length c) S)∧q≠w.heap.size+1
theorem CntI.below {w w':World} {M n tot:Nat} {S:List Nat} (h:CntI w M n S tot) (hb:Below w.heap.size w w'):CntI w' M n S tot:=by
 obtain ⟨D,c,⟨es,cl,h1,r⟩,h2⟩:=h;have hM:=(Array.getElem?_eq_some_iff.1 h1).1;exact ⟨D,c,⟨es,cl,(hb.block M hM).trans h1,r⟩,h2⟩
theorem sI (w:World) (v:Value) (q c:Nat) (S:List Nat) (tot:Nat):KeepP (StR w v q c S tot):=fun _ _ h hb=>
 ⟨⟨aB h.1.1 hb,bY _ _ _ _ h.1.2 hb⟩,⟨h.2.1.1.below hb,h.2.1.2.below hb⟩,h.2.2⟩
theorem sJ (g o:Nat) (n:Nd) (vc ve:Value):KeepP fun W=>NdIn W g o n vc ve:=fun _ _ h hb=>h.below hb
def CP (w:World) (G:List Nd) (e:Ending) (w':World):Prop:=∃ ad c,e= .returned (.slice ad (gL G).length c)∧OwnN w' w.heap.size (.slice ad (gL G).length c) (gL G)∧Below w.heap.size w w'
theorem OwnN.base {w:World} {B B':Nat} {v:Value} {l:List Nat} (h:OwnN w B v l) (hb:B'≤B):OwnN w B' v l:=⟨h.1,h.2.imp id fun ⟨g,cap,cur,e,hB,r⟩=>⟨g,cap,cur,e,Nat.le_trans hb hB,r⟩⟩
theorem StR.put {w:World} {v:Value} {q c tot:Nat} {S:List Nat} {wr w3:World} (h:StR w v q c S tot wr) (hc:CntI w3 (w.heap.size+1) (tot+1) S (tot+1)) (hg:wr.grownBy w3 (some (w.heap.size+1))):StR w v q c S (tot+1) w3:=
 ⟨⟨h.1.1.grown hg h.1.1.size (fun k hk=>by cases hk;omega),hg.cell h.1.2.1 (by simp),Nat.lt_of_lt_of_le h.1.2.2 hg.size⟩,⟨hc,h.2.1.2.kept hg (Or.inr (by simp [Value.ownBlock];exact h.2.2))⟩,h.2.2⟩
theorem StR.app {w:World} {v:Value} {q c tot t:Nat} {S:List Nat} {wr w1:World} {v1:Value} (h:StR w v q c S tot wr) (ho:w1.ownsRow (w.heap.size+1) 3 1 v1 (S.length+1) (pH S++[.int .i64 (t:Int)])) (hg:wr.grownBy w1 (some q)) (hat:v1.ownBlock=some q∨v1.ownBlock=some wr.heap.size):
 ∃ q2 c2,v1= .slice (some ⟨q2,0,none⟩) (S.length+1) c2∧(Below w.heap.size w w1∧BxG w1 w.heap.size v)∧(CntI w1 (w.heap.size+1) tot S tot∧OwnN w1 (w.heap.size+1) (.slice (some ⟨q2,0,none⟩) (S++[t]).length c2) (S++[t]))∧q2≠w.heap.size+1:=by
 have hq:=(World.ownsRow.lt h.2.1.2 q rfl).1
 have hM:w.heap.size+1<wr.heap.size:=by
  obtain ⟨D,c,h1,_⟩:=h.2.1.1;exact h1.lt
 have hq2:=h.2.2;obtain ⟨q2,c2,rfl,_⟩:=ho.form (by omega);refine ⟨q2,c2,rfl,⟨h.1.1.grown hg h.1.1.size (fun k hk=>by cases hk;omega),hg.cell h.1.2.1 (by simp;omega),Nat.lt_of_lt_of_le h.1.2.2 hg.size⟩,⟨h.2.1.1.kept hg (by simp;omega),?_⟩,?_⟩
 · unfold OwnN
   rw [CO,List.length_append];exact ho
 · rcases hat with e|e<;>simp [Value.ownBlock] at e<;>omega
theorem StR.up {w:World} {v:Value} {q2 c2 tot t:Nat} {S:List Nat} {w1:World} (h:(Below w.heap.size w w1∧BxG w1 w.heap.size v)∧(CntI w1 (w.heap.size+1) tot S tot∧OwnN w1 (w.heap.size+1) (.slice (some ⟨q2,0,none⟩) (S++[t]).length c2) (S++[t]))∧q2≠w.heap.size+1) (ht:t<4611686018427387904) (htot:tot<4611686018427387904):
 ∃ k:Nat,k≤tot∧(Instr.lookup 118 (.map (some (w.heap.size+1))) (.int .i64 (t:Int)) false).run Tryz.prog w1= .ok (.int .i64 (k:Int)) w1∧∃ w3,(Instr.mapUpdate 118 (.map (some (w.heap.size+1))) (.int .i64 (t:Int)) (.int .i64 ((k:Int)+1))).run Tryz.prog w1= .ok () w3∧StR w v q2 c2 (S++[t]) (tot+1) w3:=by
 obtain ⟨k,_,hk,hsp⟩:=h.2.1.1.step (t:=t) (S':=S++[t]) ht (by unfold maxLen;omega) (fun y=>by simp);obtain ⟨hl,w3,hu,hc3,hg3⟩:=hsp w1 none ⟨rfl,rfl,rfl,Nat.le_refl _,fun _ _ _=>rfl⟩ (by simp);refine ⟨k,hk,hl,w3,hu,⟨h.1.1.grown hg3 h.1.1.size (fun k hk=>by cases hk;omega),hg3.cell h.1.2.1 (by simp),Nat.lt_of_lt_of_le h.1.2.2 hg3.size⟩,⟨hc3,h.2.1.2.kept hg3 (Or.inr (by simp [Value.ownBlock];exact h.2.2))⟩,h.2.2⟩
theorem CQ {v:Value} {w:World} (hG:NodesAt w v []):
 Calls Tryz.prog 32 #[.agg #[v]] w fun e w'=>CP w [] e w':=by
 obtain ⟨ad,cap,rfl,_⟩:=hG;have HQ:Hid (∀ w',Below w.heap.size w w'→CP w [] (.returned (.slice none 0 0)) w'):=fun w' hb=>⟨none,0,rfl,⟨rfl,Or.inl ⟨rfl,rfl⟩⟩,hb⟩
 go_enter Tryz.func32,Tryz.ntmps32
 go_wp2
 go_ret;exact HQ.out _ (aD _ _)
set_option maxHeartbeats 25600000 in
theorem xL {G:List Nd} {g o cap:Nat} {w:World} (hn:0<G.length) (hx:∀ i (h:i<G.length),∃ vc ve,NdIn w g (o+i*6) G[i] vc ve) (hB:GrB G):
 Calls Tryz.prog 32 #[.agg #[.slice (some ⟨g,o,none⟩) G.length cap]] w fun e w'=>CP w G e w':=by
 have HX:=aA hx;have HSZ:=aA hB.2;obtain ⟨⟨hb1,hb2⟩,_⟩:=hB;have HSE:=aA hb2;have HQ:Hid (∀ ad c w',OwnN w' (w.heap.size+1) (.slice ad (gL G).length c) (gL G)→Below w.heap.size w w'→CP w G (.returned (.slice ad (gL G).length c)) w'):=fun ad c w' h hb=>⟨ad,c,rfl,h.base (by omega),hb⟩
 have HSO:Hid (∀ wr q c S,OwnN wr (w.heap.size+1) (.slice (some ⟨q,0,none⟩) S.length c) S→RI G.length S→Calls Tryz.prog 72 #[.slice (some ⟨q,0,none⟩) S.length c] wr fun e w'=>e= .returned (.tuple #[])∧(OwnN w' (w.heap.size+1) (.slice (some ⟨q,0,none⟩) S.length c) ((List.range G.length).filter fun i=>decide (i ∈ S))∧((List.range G.length).filter fun i=>decide (i ∈ S)).length=S.length)∧wr.grownBy w' (some q)):=fun wr q c S h1 h2=>OC h1 h2 (by omega)
 have hmm:= @run_makeMap Tryz.prog
 have h0:((w.alloc (.cells #[.slice (some ⟨g,o,none⟩) G.length cap] 55)).alloc (.map #[] 0)).ownsMap Tryz.prog 3 eU (w.heap.size+1) 0 (.map []):=by
  have e:=World.ownsMap_made (H:=Value) (w.alloc (.cells #[.slice (some ⟨g,o,none⟩) G.length cap] 55)) Tryz.prog 3 eU
  simpa using e
 obtain ⟨W2,hup,hc2,hg2⟩:=CntI.one h0;have HB1:Hid (Below w.heap.size w ((w.alloc (.cells #[.slice (some ⟨g,o,none⟩) G.length cap] 55)).alloc (.map #[] 0))∧BxG ((w.alloc (.cells #[.slice (some ⟨g,o,none⟩) G.length cap] 55)).alloc (.map #[] 0)) w.heap.size (.slice (some ⟨g,o,none⟩) G.length cap)):=⟨aR _ _ _,bY _ _ _ _ (BxG.new rfl _) (aD _ _)⟩
 have HST0:Hid (StR w (.slice (some ⟨g,o,none⟩) G.length cap) W2.heap.size 1 [0] 1 (W2.alloc (.cells #[.int .i64 0] 3))):=by
  have hs:w.heap.size+2≤W2.heap.size:=by have:=hg2.size;simpa using this
  have hbb:=aD W2 (.cells #[.int .i64 0] 3);have b1:Below w.heap.size w W2:=HB1.out.1.grown hg2 HB1.out.1.size (fun k hk=>by cases hk;omega);have b2:BxG W2 w.heap.size (.slice (some ⟨g,o,none⟩) G.length cap):=⟨hg2.cell HB1.out.2.1 (by simp),Nat.lt_of_lt_of_le HB1.out.2.2 hg2.size⟩;refine ⟨⟨aB b1 hbb,bY _ _ _ _ b2 hbb⟩,⟨hc2.below hbb,⟨rfl,Or.inr ⟨W2.heap.size,1,#[.int .i64 0],rfl,by omega,heap_alloc_new _ _,Nat.le_refl _,by unfold maxLen;omega,rfl,rfl⟩⟩⟩,by omega⟩
 have hn0:((G.length:Int)==0)=false:=by rw [beq_eq_false_iff_ne];omega
 clear hx hc2 hg2 h0 HB1 hb2
 go_enter Tryz.func32,Tryz.ntmps32
 go_wp2_with fail
 clear hup
 go_loopw [4,5] (fun v4 v5 wr=>∃ (i q c tot:Nat) (S:List Nat),v4= .slice (some ⟨q,0,none⟩) S.length c∧v5= .int .i64 (i:Nat)∧RJ G i S∧tot≤1+pG G (S.take i)∧StR w (.slice (some ⟨g,o,none⟩) G.length cap) q c S tot wr) (fun _ v5 _=>G.length+1 - (intOf v5).toNat)
 case atStart=>exact ⟨0,W2.heap.size,1,1,[0],rfl,rfl,RJ.one hn,by simp [pG],HST0.out⟩
 case round=>
  clear HST0;obtain ⟨i,q,c,tot,S,rfl,rfl,hrj,htot,hst⟩:=hrel;have HRJ:=aA hrj;have HST:=aA hst;have HTOT:=aA htot;have hSl:=hrj.ri.len
  by_cases hlt:i<S.length
  · have hqn:=hrj.ri.lt _ (List.getElem_mem hlt)
    obtain ⟨vc,ve,hndw⟩:=HX.out S[i] hqn;have hnd:=hndw.below hst.1.1;have hin:=OwnN.at hst.2.1.2 hlt;have HED:Hid (edA G S[i]=G[S[i]].ed):=FX hqn;have hle:=(HSZ.out _ (List.getElem_mem hqn)).2;have HNX:Hid (∀ S',sG G.length S (edA G S[i])=S'→RI G.length S'→i+1≤S'.length→RJ G (i+1) S'):=fun S' h1 h2 h3=>HRJ.out.next hlt h1 h2 h3
    have HDG:Hid (pG G (S.take (i+1))=pG G (S.take i)+(edA G S[i]).length∧pG G (S.take (i+1))≤KQ G):=⟨CN hlt,HRJ.out.ri.deg (i+1)⟩;rw [HED.out] at HNX HDG;generalize hr:S[i]=r at*;have hqi:(r:Int)<G.length:=by omega
    have hq0:(0:Int)≤r:=by omega
    obtain ⟨ae,ce,rfl⟩:=hnd.2.1.2.sl;obtain ⟨ac,cc,rfl⟩:=hnd.2.1.1.sl;generalize G[r]=x at*;have HEA:Hid (∀ w1,Below w.heap.size w w1→EdgesAt w1 (.slice ae x.ed.length ce) x.ed):=fun w1 h1=>hndw.2.1.2.below h1
    have HK:Hid (KeepP fun w1=>StR w (.slice (some ⟨g,o,none⟩) G.length cap) q c S tot w1∧NdIn w1 g (o+r*6) x (.slice ac x.cx.length cc) (.slice ae x.ed.length ce)∧InN w1 q i (r:Int)):=(sI _ _ _ _ _ _).and ((sJ _ _ _ _ _).and (KT _ _ _));have HO:Hid (StR w (.slice (some ⟨g,o,none⟩) G.length cap) q c S tot wr∧NdIn wr g (o+r*6) x (.slice ac x.cx.length cc) (.slice ae x.ed.length ce)∧InN wr q i (r:Int)):=⟨hst,hnd,hin⟩;have hil:(i:Int)<S.length:=by omega
    have hi0:(0:Int)≤i:=by omega
    have hSc:S.length≤c:=by
     rcases hst.2.1.2.2 with ⟨e,_⟩|⟨g',cap',cur,hv,_,_,h1,_⟩
     · cases e
     · cases hv;exact h1
    clear hrj hst htot hnd hndw hin HED
    go_wp2_with fail
    refine bA HK (by kernel_rfl) (by kernel_rfl) (by first|exact HO.out|exact HK.out.drew HO.out) ?_;intro C HIN HOUT;clear HO
    repeat
     (with_reducible refine wpQuiet_step (fun K hK=> ?_)
      go_simp
      first
       |(refine hK _ ?_;clear hK K)
       |(apply Exists.intro;refine ⟨fun w1 hC=> ?_,hK _ ?_⟩;(focus ((first|(exact rfl)|(obtain ⟨⟨⟨hbw,y0,y1⟩,_,hqm⟩,⟨⟨x0,x1,x2,x3,x4,x5⟩,_,x6⟩,k0,k1⟩:=HOUT.out w1 hC;clear hC;go_simp;first|done|exact rfl));done));clear hK K))
    refine wpQuiet_nil ?_;intro wn hC;have HO:=aA (HOUT.out _ hC);clear hC HIN HOUT C;obtain ⟨⟨⟨hbw,y0,y1⟩,_,hqm⟩,⟨⟨x0,x1,x2,x3,x4,x5⟩,_,x6⟩,k0,k1⟩:=HO.out;have HST2:=aA HO.out.1;clear HO HK HST x0 x1 x2 x3 x4 x5 x6 k0 k1 y0 y1 hqm hbw;generalize hlx:x.ed.length=le at*;have HLX:=aA hlx;clear hlx
    go_wp2_with fail
    go_loopw [4,31] (fun v4 vj wq=>∃ (j q' c' tot':Nat) (S':List Nat),v4= .slice (some ⟨q',0,none⟩) S'.length c'∧vj= .int .i64 (j:Nat)∧j≤le∧(RI G.length S'∧S<+:S'∧sG G.length S' (x.ed.drop j)=sG G.length S x.ed)∧tot'≤tot+j∧StR w (.slice (some ⟨g,o,none⟩) G.length cap) q' c' S' tot' wq) (fun _ vj _=>le - (intOf vj).toNat)
    case atStart=>exact ⟨0,q,c,tot,S,rfl,rfl,Nat.zero_le _,⟨HRJ.out.ri,List.prefix_refl _,rfl⟩,Nat.le_refl _,HST2.out⟩
    case round=>
     clear HST2;obtain ⟨j,q',c',tot',S',rfl,rfl,hj,⟨hri,hpre,hvis⟩,htot',hst'⟩:=hrel;have HST:=aA hst';have HRI:=aA hri;have HPRE:=aA hpre;have HVIS:=aA hvis;have hea:=HEA.out wr hst'.1.1;have hS'l:=hri.len
     by_cases hjl:j<le
     · have hjx:j<x.ed.length:=by have:=HLX.out;omega
       obtain ⟨gp,op,rfl,hcp,hei⟩:∃ gp op,ae=some ⟨gp,op,none⟩∧le≤ce∧EgIn wr gp (op+j*2) x.ed[j]:=by
        obtain ⟨a1,c1,hv,hc,hl⟩:=hea;cases hv
        rcases hl with h|⟨g,o,rfl,_,hs⟩
        · rw [h] at hjx;cases hjx
        · exact ⟨g,o,rfl,by have:=HLX.out;omega,hs j hjx⟩
       have HVS:Hid (sG G.length (sF G.length S' x.ed[j].to) (x.ed.drop (j+1))=sG G.length S x.ed):=by
        unfold Hid;rw [←CM hjx];exact hvis
       have htm:tot'<4611686018427387900:=by
        have h1:=HDG.out;have h2:=HTOT.out;have h3:=HSE.out;have h4:=HLX.out;omega
       generalize x.ed[j]=ee at*;obtain ⟨elb,eto⟩:=ee
       simp only at HVS
       have HAW:Hid (StR w (.slice (some ⟨g,o,none⟩) G.length cap) q' c' S' tot' (wr.alloc (.cells #[.string elb,.int .i64 eto] 77))):=sI _ _ _ _ _ _ _ _ hst' (aD _ _);obtain ⟨⟨e0,e1⟩,e6⟩:=hei
       simp only at e0 e1
       have y0:=HAW.out.1.2.1;have z1:(wr.alloc (.cells #[.string elb,.int .i64 eto] 77)).cell? ⟨wr.heap.size,1,none⟩=some (.int .i64 eto):=by simp
       clear hst' hea hri hpre hvis
       by_cases hr0:0≤eto∧eto<(G.length:Int)
       · obtain ⟨t,rfl⟩:=Int.eq_ofNat_of_zero_le hr0.1
         have htn:t<G.length:=by omega
         have hd1:decide ((t:Int)<0)=false:=decide_eq_false (by omega);have hd3:decide ((G.length:Int)≤(t:Int))=false:=decide_eq_false (by omega)
         by_cases hts:t ∈ S'
         · rw [GA hts] at HVS
           obtain ⟨k,hk0,hkt,hsp⟩:=HAW.out.2.1.1.step (t:=t) (S':=S') (by omega) (by unfold maxLen;omega) (fun y=>⟨Or.inl,fun h=>h.elim id fun h=>h ▸ hts⟩);obtain ⟨hl,w3,hu,hc3,hg3⟩:=hsp _ none ⟨rfl,rfl,rfl,Nat.le_refl _,fun _ _ _=>rfl⟩ (by simp);have hkp:=hk0.2 hts;have hk1:((k:Int)==0)=false:=by simp;omega
           have hkm:k≤4611686018427387900:=by omega
           have HR:Hid (StR w (.slice (some ⟨g,o,none⟩) G.length cap) q' c' S' (tot'+1) w3):=HAW.out.put hc3 hg3;clear hk0 hsp hc3 hg3
           go_wp2_with fail
           exact ⟨⟨j+1,q',c',tot'+1,S',rfl,by go_num,by omega,⟨HRI.out,HPRE.out,HVS.out⟩,by omega,HR.out⟩,by simp [intOf];omega⟩
         · rw [GB htn hts] at HVS
           have hri2:=HRI.out.snoc htn hts;have HRI2:=aA hri2;have hl2:=hri2.len;rw [List.length_append,List.length_singleton] at hl2;obtain ⟨k,hk0,hkt,hsp⟩:=HAW.out.2.1.1.step (t:=t) (S':=S'++[t]) (by omega) (by unfold maxLen;omega) (fun y=>by simp);obtain ⟨hl,_⟩:=hsp _ none ⟨rfl,rfl,rfl,Nat.le_refl _,fun _ _ _=>rfl⟩ (by simp)
           obtain rfl:k=0:=by
            rcases Nat.eq_zero_or_pos k with h|h
            · exact h
            · exact absurd (hk0.1 h) hts
           clear hk0 hsp hri2;have hq'm:=HAW.out.2.2;have hq'l:=(World.ownsRow.lt HST.out.2.1.2 q' rfl).2
           have HCE:Hid (∀ j u,[Value.int .i64 (t:Int)][j]? =some u→((wr.alloc (.cells #[.string elb,.int .i64 (t:Int)] 77)).alloc (.cells #[.int .i64 (t:Int)] 3)).cell? ((⟨wr.heap.size+1,0,none⟩:Addr).add j)=some u):=fun j u hju=>by
            cases j with
            |zero=>simp at hju;subst hju;simp [Addr.add]
            |succ j=>simp at hju
           have HAP:Hid (World.ownsRow ((wr.alloc (.cells #[.string elb,.int .i64 (t:Int)] 77)).alloc (.cells #[.int .i64 (t:Int)] 3)) (w.heap.size+1) 3 1 (.slice (some ⟨q',0,none⟩) S'.length c') S'.length (pH S')):=HAW.out.2.1.2.below (aD _ _);have HAW2:Hid (StR w (.slice (some ⟨g,o,none⟩) G.length cap) q' c' S' tot' ((wr.alloc (.cells #[.string elb,.int .i64 (t:Int)] 77)).alloc (.cells #[.int .i64 (t:Int)] 3))):=sI _ _ _ _ _ _ _ _ HAW.out (aD _ _)
           have hszz:w.heap.size+1≤((wr.alloc (.cells #[.string elb,.int .i64 (t:Int)] 77)).alloc (.cells #[.int .i64 (t:Int)] 3)).heap.size:=by
            have:=HAW2.out.1.2.2
            omega
           have z2:((wr.alloc (.cells #[.string elb,.int .i64 (t:Int)] 77)).alloc (.cells #[.int .i64 (t:Int)] 3)).cell? ⟨wr.heap.size,1,none⟩=some (.int .i64 (t:Int)):=by simp
           have HAPP:Hid (∀ v1 w1,World.ownsRow w1 (w.heap.size+1) 3 1 v1 (S'.length+1) (pH S'++[.int .i64 (t:Int)])→((wr.alloc (.cells #[.string elb,.int .i64 (t:Int)] 77)).alloc (.cells #[.int .i64 (t:Int)] 3)).grownBy w1 (some q')→(v1.ownBlock=some q'∨v1.ownBlock=some ((wr.alloc (.cells #[.string elb,.int .i64 (t:Int)] 77)).alloc (.cells #[.int .i64 (t:Int)] 3)).heap.size)→
            ∃ (q2 c2 k2:Nat) (w3:World),v1= .slice (some ⟨q2,0,none⟩) (S'.length+1) c2∧k2≤4611686018427387900∧w1.cell? ⟨w.heap.size,0,none⟩=some (.slice (some ⟨g,o,none⟩) G.length cap)∧w1.cell? ⟨wr.heap.size,1,none⟩=some (.int .i64 (t:Int))∧(Instr.lookup 118 (.map (some (w.heap.size+1))) (.int .i64 (t:Int)) false).run Tryz.prog w1= .ok (.int .i64 (k2:Int)) w1∧(Instr.mapUpdate 118 (.map (some (w.heap.size+1))) (.int .i64 (t:Int)) (.int .i64 ((k2:Int)+1))).run Tryz.prog w1= .ok () w3∧StR w (.slice (some ⟨g,o,none⟩) G.length cap) q2 c2 (S'++[t]) (tot'+1) w3):=fun v1 w1 ho hgr hat=>by
            obtain ⟨q2,c2,rfl,hap⟩:=HAW2.out.app ho hgr hat;obtain ⟨k2,hk2,hl2',w3,hu,hst3⟩:=StR.up hap (by omega) (by omega);exact ⟨q2,c2,k2,w3,rfl,by omega,hap.1.2.1,hgr.cell z2 (by simp;omega),hl2',hu,hst3⟩
           go_wp2_with (at_builtin;refine sH (B:=w.heap.size+1) (n:=S'.length) (m:=1) (news:=[.int .i64 (t:Int)]) GC Tryz.underlying70 rfl (by decide) rfl _ _ rfl rfl HAP.out hszz rfl rfl HCE.out (fun u hu=>by rw [List.mem_singleton.1 hu];rfl) (by omega) (by omega) ?_;intro v1 w1 ho hgr hat;obtain ⟨q2,c2,k2,w3,rfl,hkm,y2,z3,hl2,hu,hst3⟩:=HAPP.out v1 w1 ho hgr hat;have HR:=aA hst3;clear ho hgr hat hst3)
           exact ⟨⟨j+1,q2,c2,tot'+1,S'++[t],by rw [List.length_append];rfl,by go_num,by omega,⟨HRI2.out,HPRE.out.trans (List.prefix_append _ _),HVS.out⟩,by omega,HR.out⟩,by simp [intOf];omega⟩
       · have hvo:=FZ (n:=G.length) (S:=S') hr0
         rw [hvo] at HVS
         by_cases hneg:eto<0
         · have hd1:decide (eto<0)=true:=decide_eq_true hneg
           clear hvo hr0
           go_wp2_with fail
           exact ⟨⟨j+1,q',c',tot',S',rfl,by go_num,by omega,⟨HRI.out,HPRE.out,HVS.out⟩,by omega,HAW.out⟩,by simp [intOf];omega⟩
         · have hd1:decide (eto<0)=false:=decide_eq_false hneg
           have hd3:decide ((G.length:Int)≤eto)=true:=decide_eq_true (by omega);clear hvo hr0 hneg
           go_wp2_with fail
           exact ⟨⟨j+1,q',c',tot',S',rfl,by go_num,by omega,⟨HRI.out,HPRE.out,HVS.out⟩,by omega,HAW.out⟩,by simp [intOf];omega⟩
     · have hje:j=le:=by omega
       subst hje
       have HRN:Hid (RJ G (i+1) S'∧tot'≤1+pG G (S'.take (i+1))):=by
        have e0:x.ed.drop j=[]:=by rw [←HLX.out,List.drop_length]
        have e1:=HVIS.out;rw [e0] at e1;have hl:=HPRE.out.length_le
        have htk:S'.take (i+1)=S.take (i+1):=by
         obtain ⟨r,hr⟩:=HPRE.out;rw [←hr,List.take_append_of_le_length (by omega)]
        refine ⟨HNX.out _ e1.symm HRI.out (by omega),?_⟩;rw [htk];have h1:=HDG.out;have h2:=HTOT.out;have h4:=HLX.out;omega
       clear hri hpre hvis hea htot' hst'
       go_wp2
       exact ⟨⟨i+1,q',c',tot',S',rfl,by go_num,HRN.out.1,HRN.out.2,HST.out⟩,by simp [intOf];omega⟩
  · have hie:i=S.length:=by have:=hrj.le;omega
    subst hie;have hdone:=hrj.done;have HLS:=aA (HSO.out _ _ _ _ hst.2.1.2 hrj.ri)
    have HRL:Hid (gL G=(List.range G.length).filter fun i=>decide (i ∈ S)):=by
     unfold Hid gL;rw [if_neg (by omega),←hdone]
    have hq1:=(World.ownsRow.lt hst.2.1.2 q rfl).1;clear hrj hst htot hdone
    go_wp2_with (go_at_call 72;refine HLS.out.mono ?_;rintro e w1 ⟨rfl,⟨ho,hlen⟩,hgr⟩;have HF:Hid (CP w G (.returned (.slice (some ⟨q,0,none⟩) S.length c)) w1):=(by
     have b1:Below w.heap.size w w1:=HST.out.1.1.grown hgr HST.out.1.1.size (fun k hk=>by cases hk;omega);have q1:=HQ.out (some ⟨q,0,none⟩) c w1;rw [HRL.out,hlen] at q1;exact q1 ho b1);clear ho hlen hgr)
    go_ret;exact HF.out
theorem lN {G:List Nd} {v:Value} {w:World} (hG:NodesAt w v G) (hB:GrB G):
 Calls Tryz.prog 32 #[.agg #[v]] w fun e w'=>CP w G e w':=by
 cases G with
 |nil=>exact CQ hG
 |cons n r=>
  obtain ⟨ad,cap,rfl,hcap,hl⟩:=hG
  rcases hl with h|⟨g,o,rfl,hg,hs⟩
  · cases h
  · exact xL (by simp) hs hB
end Go.Proofs.YtpfemjlhklnfoaaGreatDoor
namespace Go.Proofs.YtpfemjlhklnfoaaGreatDoor
open Go.RowKit Go.Maps Go.WideMaps
set_option maxRecDepth 100000
theorem kK (w:World) (ad:Option Addr) (cap:Nat):EdgesAt w (.slice ad 0 cap) []:=⟨ad,cap,rfl,Nat.zero_le _,Or.inl rfl⟩
theorem mN (w:World) (ad:Option Addr) (cap:Nat):PinsAt w (.slice ad 0 cap) []:=⟨ad,cap,rfl,Nat.zero_le _,Or.inl rfl⟩
def ndB (s:ByteArray) (a b c:Int):Nd:=⟨s,a,b,c,[],[]⟩
set_option maxHeartbeats 1600000 in
theorem sK {s:ByteArray} {a b c:Int} {ac ae ao:Option Addr} {cc ce co:Nat} {w:World}:
 Calls Tryz.prog 114 #[.agg #[.string s,.int .i64 a,.int .i64 b,.int .i64 c,.slice ac 0 cc,.slice ae 0 ce],.slice ao 0 co] w fun e w'=>e= .returned (.bool true)∧Below w.heap.size w w':=by
 have hmm:= @run_makeMap Tryz.prog;have HC:Hid (∀ w1 u,Calls Tryz.prog 167 #[.slice ae 0 ce,.func (.func 168) #[] #[u]] w1 fun e w'=>e= .returned (.bool false)∧Below w1.heap.size w1 w'):=fun w1 u=>zO (L:=[]) (p:=fun _=>true) (kK w1 ae ce) (by simp) (fun w2 _ x hx=>by cases hx)
 have HB:Hid (∀ u:Value,(Below w.heap.size w (((w.alloc (.cells #[.string s,.int .i64 a,.int .i64 b,.int .i64 c,.slice ac 0 cc,.slice ae 0 ce] 67)).alloc (.map #[] 0)).alloc (.cells #[u] 210))∧BxNd (((w.alloc (.cells #[.string s,.int .i64 a,.int .i64 b,.int .i64 c,.slice ac 0 cc,.slice ae 0 ce] 67)).alloc (.map #[] 0)).alloc (.cells #[u] 210)) w.heap.size (ndB s a b c) (.slice ac 0 cc) (.slice ae 0 ce))):=fun u=>
  ⟨LT _ _ _ _,aZ _ _ _ _ _ _ (aZ _ _ _ _ _ _ (BxNd.new rfl (ndB s a b c) _ _) (aD _ _)) (aD _ _)⟩
 go_enter Tryz.func114,Tryz.ntmps114
 go_wp2_with fail
 go_loopw [13] (fun i wr=>i= .int .i64 0∧Below w.heap.size w wr∧BxNd wr w.heap.size (ndB s a b c) (.slice ac 0 cc) (.slice ae 0 ce)) (fun _ _=>0)
 case atStart=>exact ⟨rfl,HB.out _⟩
 case round=>
  obtain ⟨rfl,hb,⟨y0,y1,y2,y3,y4,y5⟩,y6⟩:=hrel;have HB1:Hid (Below w.heap.size w wr∧BxNd wr w.heap.size (ndB s a b c) (.slice ac 0 cc) (.slice ae 0 ce)):=⟨hb,⟨y0,y1,y2,y3,y4,y5⟩,y6⟩;clear hb HB
  go_wp2_with fail
  clear y0 y1 y2 y3 y4 y5 y6
  go_loopw [26] (fun i wr=>i= .int .i64 0∧Below w.heap.size w wr∧BxNd wr w.heap.size (ndB s a b c) (.slice ac 0 cc) (.slice ae 0 ce)) (fun _ _=>0)
  case atStart=>exact ⟨rfl,HB1.out⟩
  case round=>
   clear HB1;obtain ⟨rfl,hb,⟨y0,y1,y2,y3,y4,y5⟩,y6⟩:=hrel;have HB2:=aA hb;clear hb
   go_wp2_with (go_at_call 167;refine (HC.out _ _).mono ?_;rintro e w1 ⟨rfl,ok⟩)
   go_ret;exact ⟨rfl,aB HB2.out ok⟩
set_option maxHeartbeats 1600000 in
theorem CR {al ao:Option Addr} {cl co:Nat} {w:World}:
 Calls Tryz.prog 115 #[.slice ao 0 co,.slice al 0 cl] w fun e w'=>e= .returned (.bool true)∧Below w.heap.size w w':=by
 have hmm:= @run_makeMap Tryz.prog;have HB:=aA (aD w (.map #[] 0))
 go_enter Tryz.func115,Tryz.ntmps115
 go_wp2_with fail
 go_loopw [15] (fun i wr=>i= .int .i64 0∧Below w.heap.size w wr) (fun _ _=>0)
 case atStart=>exact ⟨rfl,HB.out⟩
 case round=>
  clear HB;obtain ⟨rfl,hb⟩:=hrel;have HB1:=aA hb;clear hb
  go_wp2_with fail
  go_loopw [27] (fun i wr=>i= .int .i64 0∧Below w.heap.size w wr) (fun _ _=>0)
  case atStart=>exact ⟨rfl,HB1.out⟩
  case round=>
   clear HB1;obtain ⟨rfl,hb⟩:=hrel;have HB2:=aA hb;clear hb
   go_wp2
   go_ret;exact ⟨rfl,HB2.out⟩
set_option maxHeartbeats 1600000 in
theorem pI {s:ByteArray} {a b c:Int} {ac ae al:Option Addr} {cc ce kl cl:Nat} {w:World}:
 Calls Tryz.prog 116 #[.agg #[.string s,.int .i64 a,.int .i64 b,.int .i64 c,.slice ac 0 cc,.slice ae 0 ce],.slice al kl cl] w fun e w'=>e= .returned (.bool true)∧Below w.heap.size w w':=by
 have HC:Hid (∀ w1 u,Calls Tryz.prog 169 #[.slice ac 0 cc,.func (.func 170) #[] #[u]] w1 fun e w'=>e= .returned (.bool false)∧Below w1.heap.size w1 w'):=fun w1 u=>zP (L:=[]) (p:=fun _=>true) (mN w1 ac cc) (by simp) (fun w2 _ x hx=>by cases hx)
 have HB:=aA (aR w (.cells #[.string s,.int .i64 a,.int .i64 b,.int .i64 c,.slice ac 0 cc,.slice ae 0 ce] 67) (.cells #[.slice al kl cl] 40))
 go_enter Tryz.func116,Tryz.ntmps116
 go_wp2_with (go_at_call 169;refine (HC.out _ _).mono ?_;rintro e w1 ⟨rfl,ok⟩)
 go_ret;exact ⟨rfl,aB HB.out ok⟩
def BxS (w:World) (N:Nat) (v:Value) (p:Option Addr):Prop:=(w.cell? ⟨N,0,none⟩=some v∧w.cell? ⟨N,1,none⟩=some (.pointer p)∧w.cell? ⟨N,2,none⟩=some (.slice none 0 0)∧w.cell? ⟨N,3,none⟩=some (.slice none 0 0)∧w.cell? ⟨N,4,none⟩=some (.slice none 0 0)∧w.cell? ⟨N,5,none⟩=some (.slice none 0 0)∧w.cell? ⟨N,6,none⟩=some (.bool true))∧N<w.heap.size
theorem eN (N:Nat) (v:Value) (p:Option Addr):KeepP fun w1=>BxS w1 N v p:=fun w w' h hb=>by
 obtain ⟨⟨h0,h1,h2,h3,h4,h5,h6⟩,hg⟩:=h;have q:∀ i,w'.cell? ⟨N,i,none⟩=w.cell? ⟨N,i,none⟩:=fun i=>hb.cell (p:=⟨N,i,none⟩) hg
 exact ⟨⟨by rw [q];exact h0,by rw [q];exact h1,by rw [q];exact h2,by rw [q];exact h3,by rw [q];exact h4,by rw [q];exact h5,by rw [q];exact h6⟩,Nat.lt_of_lt_of_le hg hb.size⟩
theorem BxS.new {w:World} {N:Nat} (hN:w.heap.size=N) (v:Value) (p:Option Addr):BxS (w.alloc (.cells #[v,.pointer p,.slice none 0 0,.slice none 0 0,.slice none 0 0,.slice none 0 0,.bool true] 109)) N v p:=by
 subst hN;refine ⟨⟨?_,?_,?_,?_,?_,?_,?_⟩,?_⟩<;>simp
set_option maxHeartbeats 1600000 in
theorem NC {s:ByteArray} {a b c:Int} {g o n cap:Nat} {p:Option Addr} {vc:Value} {ae:Option Addr} {ce:Nat} {w:World} (hx:NdIn w g o (ndB s a b c) vc (.slice ae 0 ce)) (hn:0<n):
 Calls Tryz.prog 113 #[.agg #[.slice (some ⟨g,o,none⟩) n cap,.pointer p,.slice none 0 0,.slice none 0 0,.slice none 0 0,.slice none 0 0,.bool true],.int .i64 0] w fun e w'=>e= .returned (.slice none 0 0)∧Below w.heap.size w w':=by
 have HB:Hid (Below w.heap.size w (w.alloc (.cells #[.slice (some ⟨g,o,none⟩) n cap,.pointer p,.slice none 0 0,.slice none 0 0,.slice none 0 0,.slice none 0 0,.bool true] 109))):=aD _ _;have HX:=aA (hx.below (aD w (.cells #[.slice (some ⟨g,o,none⟩) n cap,.pointer p,.slice none 0 0,.slice none 0 0,.slice none 0 0,.slice none 0 0,.bool true] 109)));obtain ⟨⟨x0,x1,x2,x3,x4,x5⟩,_,x6⟩:=HX.out;have hni:(0:Int)<(n:Int):=by omega
 clear hx HX
 go_enter Tryz.func113,Tryz.ntmps113
 go_wp2_with fail
 clear x0 x1 x2 x3 x4 x5 x6
 go_loopw [5,15] (fun v5 i wr=>v5= .slice none 0 0∧i= .int .i64 0∧Below w.heap.size w wr) (fun _ _ _=>0)
 case atStart=>exact ⟨rfl,rfl,HB.out⟩
 case round=>
  clear HB;obtain ⟨rfl,rfl,hb⟩:=hrel;have HB1:=aA hb;clear hb
  go_wp2
  go_ret;exact ⟨rfl,HB1.out⟩
structure Wt where
 nm:ByteArray
 kd:Int
 ad:Option Addr
 ln:Nat
 cp:Nat
 tg:Nat
def fK (x:Wt):List Value:=[.string x.nm,.int .i64 x.kd,.slice x.ad x.ln x.cp]
theorem GD:(Tryz.prog.info? 161).map (fun i=>(i.zero,i.size,i.bytes))=some (some (.agg #[.string ⟨#[]⟩,.int .i64 0,.slice none 0 0]),3,48):=by kernel_rfl
def RowW (w:World) (B g n cap:Nat) (xs:List Wt):Prop:=xs.length=n∧w.ownsRow B 161 3 (.slice (some ⟨g,0,none⟩) n cap) n (xs.flatMap fK)
theorem sL:∀ (l:List Wt) (i:Nat) (x:Wt),l[i]? =some x→(l.flatMap fK)[i*3]? =some (.string x.nm)∧(l.flatMap fK)[i*3+1]? =some (.int .i64 x.kd)∧(l.flatMap fK)[i*3+2]? =some (.slice x.ad x.ln x.cp)
 |[],i,x,h=>by simp at h
 |y::l,0,x,h=>by
  simp at h
  subst h;exact ⟨rfl,rfl,rfl⟩
 |y::l,i+1,x,h=>by
  obtain ⟨h0,h1,h2⟩:=sL l i x (by simpa using h);rw [List.flatMap_cons];have e:∀ r,(i+1)*3+r=(fK y).length+(i*3+r):=fun r=>by show _=3+_;omega
  refine ⟨?_,?_,?_⟩
  · have e0:(i+1)*3=(fK y).length+i*3:=by show _=3+_;omega
    rw [e0,List.getElem?_append_right (Nat.le_add_right _ _),Nat.add_sub_cancel_left];exact h0
  · rw [e 1,List.getElem?_append_right (Nat.le_add_right _ _),Nat.add_sub_cancel_left]
    exact h1
  · rw [e 2,List.getElem?_append_right (Nat.le_add_right _ _),Nat.add_sub_cancel_left]
    exact h2
theorem uY:∀ (l:List Wt) (i:Nat) (y:Wt),i<l.length→((((l.flatMap fK).set (i*3) (.string y.nm)).set (i*3+1) (.int .i64 y.kd)).set (i*3+2) (.slice y.ad y.ln y.cp))=(l.set i y).flatMap fK
 |[],i,y,h=>by simp at h
 |x::l,0,y,_=>by
  rw [List.set_cons_zero,List.flatMap_cons,List.flatMap_cons];rfl
 |x::l,i+1,y,h=>by
  rw [List.set_cons_succ,List.flatMap_cons,List.flatMap_cons,←uY l i y (by simpa using h)];have e:∀ r,(i+1)*3+r=(fK x).length+(i*3+r):=fun r=>by show _=3+_;omega
  have e0:(i+1)*3=(fK x).length+i*3:=by show _=3+_;omega
  rw [e 2,e 1,e0];rw [List.set_append_right _ _ (Nat.le_add_right _ _),List.set_append_right _ _ (Nat.le_add_right _ _),List.set_append_right _ _ (Nat.le_add_right _ _)];simp only [Nat.add_sub_cancel_left]
theorem RowW.cells {w:World} {B g n cap:Nat} {xs:List Wt} (h:RowW w B g n cap xs) {i:Nat} {x:Wt} (hx:xs[i]? =some x):w.cell? ⟨g,i*3,none⟩=some (.string x.nm)∧w.cell? ⟨g,i*3+1,none⟩=some (.int .i64 x.kd)∧w.cell? ⟨g,i*3+2,none⟩=some (.slice x.ad x.ln x.cp):=by
 have hi:i<n:=by rw [←h.1];exact (List.getElem?_eq_some_iff.1 hx).1
 obtain ⟨h0,h1,h2⟩:=sL xs i x hx;exact ⟨(World.ownsRow.cellAt h.2 _ (by omega)).trans h0,(World.ownsRow.cellAt h.2 _ (by omega)).trans h1,(World.ownsRow.cellAt h.2 _ (by omega)).trans h2⟩
theorem RowW.lt {w:World} {B g n cap:Nat} {xs:List Wt} (h:RowW w B g n cap xs):B≤g∧g<w.heap.size:=World.ownsRow.lt h.2 g rfl
theorem RowW.below {w w':World} {B g n cap:Nat} {xs:List Wt} (h:RowW w B g n cap xs) (hb:Below w.heap.size w w'):RowW w' B g n cap xs:=⟨h.1,bG h.2 hb⟩
theorem RowW.put {w:World} {B g n cap:Nat} {xs:List Wt} (h:RowW w B g n cap xs) {i:Nat} (hi:i<n) (y:Wt):RowW (((w.setCell ⟨g,i*3,none⟩ (.string y.nm)).setCell ⟨g,i*3+1,none⟩ (.int .i64 y.kd)).setCell ⟨g,i*3+2,none⟩ (.slice y.ad y.ln y.cp)) B g n cap (xs.set i y)∧w.grownBy (((w.setCell ⟨g,i*3,none⟩ (.string y.nm)).setCell ⟨g,i*3+1,none⟩ (.int .i64 y.kd)).setCell ⟨g,i*3+2,none⟩ (.slice y.ad y.ln y.cp)) (some g):=by
 obtain ⟨a1,b1⟩:=h.2.stored (i*3) (.string y.nm);obtain ⟨a2,b2⟩:=a1.stored (i*3+1) (.int .i64 y.kd);obtain ⟨a3,b3⟩:=a2.stored (i*3+2) (.slice y.ad y.ln y.cp);rw [uY xs i y (by rw [h.1];exact hi)] at a3;exact ⟨⟨by rw [List.length_set];exact h.1,a3⟩,(b1.trans b2).trans b3⟩
def SW (w0:World) (B g n cap:Nat) (xs:List Wt) (w:World):Prop:=RowW w B g n cap xs∧w0.grownBy w (some g)
theorem xM {w0 w w':World} {r:Option Nat} (h:w0.grownBy w r) (hb:Below w.heap.size w w'):w0.grownBy w' r:=⟨hb.os.trans h.os,hb.tape.trans h.tape,hb.output.trans h.output,Nat.le_trans h.size hb.size,fun k hk hn=>(hb.block k (Nat.lt_of_lt_of_le hk h.size)).trans (h.block k hk hn)⟩
theorem fL (w0:World) (B g n cap:Nat) (xs:List Wt):KeepP (SW w0 B g n cap xs):=fun _ _ h hb=>⟨h.1.below hb,xM h.2 hb⟩
theorem SW.put {w0 w:World} {B g n cap:Nat} {xs:List Wt} (h:SW w0 B g n cap xs w) {i j:Nat} {x y:Wt} (hi:i<n) (hj:j<n):SW w0 B g n cap ((xs.set i y).set j x) (((((((w.setCell ⟨g,i*3,none⟩ (.string y.nm)).setCell ⟨g,i*3+1,none⟩ (.int .i64 y.kd)).setCell ⟨g,i*3+2,none⟩ (.slice y.ad y.ln y.cp))).setCell ⟨g,j*3,none⟩ (.string x.nm)).setCell ⟨g,j*3+1,none⟩ (.int .i64 x.kd)).setCell ⟨g,j*3+2,none⟩ (.slice x.ad x.ln x.cp)):=by
 obtain ⟨a1,b1⟩:=h.1.put hi y;obtain ⟨a2,b2⟩:=a1.put hj x;exact ⟨a2,(h.2.trans b1).trans b2⟩
def ltT (x y:Wt):Prop:=ltS x.nm y.nm=true∨(x.nm=y.nm∧x.tg<y.tg)
theorem fY {x y z:Wt} (h:ltT x y) (h':ltT y z):ltT x z:=by
 rcases h with h|⟨h1,h2⟩
 · rcases h' with h'|⟨h3,_⟩
   · exact Or.inl (lJ h h')
   · exact Or.inl (h3 ▸ h)
 · rcases h' with h'|⟨h3,h4⟩
   · exact Or.inl (h1 ▸ h')
   · exact Or.inr ⟨h1.trans h3,Nat.lt_trans h2 h4⟩
theorem mO {x y:Wt} (h:ltS x.nm y.nm=false) (ht:y.tg<x.tg):ltT y x:=by
 by_cases e:x.nm=y.nm
 · exact Or.inr ⟨e.symm,ht⟩
 · exact Or.inl (lI h e)
theorem fH {S1 S2:List Wt} {x:Wt} (h:(S1++S2).Pairwise ltT) (h2:∀ y ∈ S2,ltT x y) (h1:S1=[]∨∃ S0 y,S1=S0++[y]∧ltT y x):(S1++x::S2).Pairwise ltT:=by
 rw [List.pairwise_append] at h ⊢;refine ⟨h.1,List.pairwise_cons.2 ⟨h2,h.2.1⟩,fun a ha b hb=> ?_⟩
 rcases List.mem_cons.1 hb with rfl|hb
 · rcases h1 with rfl|⟨S0,y,rfl,hy⟩
   · cases ha
   · rcases List.mem_append.1 ha with ha|ha
     · exact fY ((List.pairwise_append.1 h.1).2.2 a ha y (by simp)) hy
     · rw [List.mem_singleton] at ha
       rw [ha];exact hy
 · exact h.2.2 a ha b hb
theorem qL {α:Type} (A B:List α) (x y:α):((A++y::x::B).set (A.length+1) y).set A.length x=A++x::y::B:=by
 rw [List.set_append_right _ _ (by omega),List.set_append_right _ _ (Nat.le_refl _)]
 simp
theorem gY (x y:Wt):∃ r:Int,(r<0↔ltS x.nm y.nm=true)∧∀ W,Calls Tryz.prog 242 #[.agg #[.string x.nm,.int .i64 x.kd,.slice x.ad x.ln x.cp],.agg #[.string y.nm,.int .i64 y.kd,.slice y.ad y.ln y.cp]] W fun e w'=>e= .returned (.int .i64 r)∧Below W.heap.size W w':=by
 refine ⟨pE ⟨x.nm,0,0,0⟩ ⟨y.nm,0,0,0⟩,?_,fun W=> ?_⟩
 · have e:=nU ⟨x.nm,0,0,0⟩ ⟨y.nm,0,0,0⟩
   rw [show ltP ⟨x.nm,0,0,0⟩ ⟨y.nm,0,0,0⟩=ltS x.nm y.nm from (jH x.nm y.nm).symm] at e;unfold ltOf at e;rw [←e];exact (decide_eq_true_iff (p:=_<0)).symm
 · have HSC:Hid (∀ W,Calls Tryz.prog 105 #[.string x.nm,.string y.nm] W fun e w'=>e= .returned (.int .i64 (pE ⟨x.nm,0,0,0⟩ ⟨y.nm,0,0,0⟩))∧w'=W):=fun W=>Tryz.strings_Compare _ _ W
   generalize pE ⟨x.nm,0,0,0⟩ ⟨y.nm,0,0,0⟩=r at*
   go_enter Tryz.func242,Tryz.ntmps242
   go_wp2_with (go_at_call 105;refine (HSC.out _).mono ?_;rintro e w1 ⟨rfl,rfl⟩)
   go_ret;exact ⟨rfl,aR _ _ _⟩
def Wt.rs (x:Wt):Value:= .slice x.ad x.ln x.cp
def ApartR (x y:Wt):Prop:=∀ g,x.rs.ownBlock=some g→y.rs.ownBlock≠some g
theorem ApartR.symm {x y:Wt} (h:ApartR x y):ApartR y x:=fun g hy hx=>h g hx hy
def OwnWt (w:World) (B:Nat) (v:Value) (ps:List (Wt×List Sp)):Prop:=w.ownsRow B 161 3 v ps.length ((ps.map (·.1)).flatMap fK)∧(∀ p ∈ ps,OwnS w B p.1.rs p.2)∧ps.Pairwise fun p q=>ApartR p.1 q.1
theorem OwnWt.nil (w:World) (B:Nat):OwnWt w B (.slice none 0 0) []:=⟨⟨rfl,Or.inl ⟨rfl,rfl⟩⟩,fun p hp=>(by cases hp),List.Pairwise.nil⟩
theorem OwnWt.below {w w':World} {B:Nat} {v:Value} {ps:List (Wt×List Sp)} (h:OwnWt w B v ps) (hb:Below w.heap.size w w'):OwnWt w' B v ps:=⟨bG h.1 hb,fun p hp=>(h.2.1 p hp).below hb,h.2.2⟩
theorem OwnWt.base {w:World} {B C:Nat} {v:Value} {ps:List (Wt×List Sp)} (h:OwnWt w B v ps) (hc:C≤B):OwnWt w C v ps:=⟨bZ h.1 hc,fun p hp=>(h.2.1 p hp).base hc,h.2.2⟩
theorem OwnWt.len {w:World} {B:Nat} {v:Value} {ps:List (Wt×List Sp)} (h:OwnWt w B v ps):∃ ad cap,v= .slice ad ps.length cap:=by
 rcases h.1.2 with ⟨rfl,hn⟩|⟨g,cap,cur,rfl,_⟩
 · exact ⟨none,0,by rw [hn]⟩
 · exact ⟨_,cap,rfl⟩
def eK (O:List Dp) (k:Int) (t:Nat) (ds:List Dp) (ps:List (Wt×List Sp)):Prop:=ps.length=ds.length∧∀ i p,ps[i]? =some p→∃ d,ds[i]? =some d∧p.1.nm=d.nm∧p.1.kd=k∧p.1.tg=t+i∧p.2=bV O d
theorem CS {O:List Dp} {k:Int} {t:Nat} {ds:List Dp} {ps:List (Wt×List Sp)} {d:Dp} {p:Wt×List Sp} (h:eK O k t ds ps) (h1:p.1.nm=d.nm) (h2:p.1.kd=k) (h3:p.1.tg=t+ds.length) (h4:p.2=bV O d):eK O k t (ds++[d]) (ps++[p]):=by
 refine ⟨by rw [List.length_append,List.length_append,h.1];rfl,fun i q hq=> ?_⟩
 by_cases hi:i<ps.length
 · rw [List.getElem?_append_left hi] at hq
   obtain ⟨e,h5,h6⟩:=h.2 i q hq;exact ⟨e,by rw [List.getElem?_append_left (by rw [←h.1];exact hi)];exact h5,h6⟩
 · rw [List.getElem?_append_right (by omega)] at hq
   have hz:i - ps.length=0:=by
    have:=(List.getElem?_eq_some_iff.1 hq).1
    rw [List.length_singleton] at this;omega
   rw [hz] at hq;cases hq;have e:i=ds.length:=by rw [←h.1];omega
   subst e;exact ⟨d,by rw [List.getElem?_append_right (Nat.le_refl _),Nat.sub_self];rfl,h1,h2,h3,h4⟩
theorem OwnWt.snoc {w w1:World} {B:Nat} {v v1:Value} {ps:List (Wt×List Sp)} {p:Wt×List Sp} (h:OwnWt w B v ps) (hs:OwnS w B p.1.rs p.2) (hn:∀ q ∈ ps,ApartR q.1 p.1) (ho:w1.ownsRow B 161 3 v1 (ps.length+1) ((ps.map (·.1)).flatMap fK++fK p.1)) (hg:w.grownBy w1 v.ownBlock):OwnWt w1 B v1 (ps++[p]):=by
 have hk:∀ {u:Value} {L:List Sp},OwnS w B u L→OwnS w1 B u L:=fun {u L} hu=>by
  refine hu.of_block fun g hgu=>hg.block g (hu.lt hgu).1 fun e=> ?_
  exact EN hu h.1 (by decide) hgu e.symm
 refine ⟨by rw [List.length_append,List.map_append,List.flatMap_append];simpa using ho,fun q hq=> ?_,?_⟩
 · rcases List.mem_append.1 hq with hq|hq
   · exact hk (h.2.1 q hq)
   · rw [List.mem_singleton.1 hq]
     exact hk hs
 · rw [List.pairwise_append]
   refine ⟨h.2.2,List.pairwise_singleton _ _,fun a ha b hb=> ?_⟩;rw [List.mem_singleton.1 hb];exact hn a ha
theorem qM {w w6:World} {B:Nat} {ps:List (Wt×List Sp)} {v:Value} (h:OwnWt w B v ps) {x:Wt} {L:List Sp} (hx:OwnS w6 w.heap.size x.rs L):∀ q ∈ ps,ApartR q.1 x:=fun q hq=>by
 intro g hb e;have h1:=((h.2.1 q hq).lt hb).1;have h2:=(hx.lt e).2;omega
set_option maxHeartbeats 12800000 in
theorem dW {w:World} {O:List Dp} {v4:Value} {M n:Nat} (h:DepsAt w v4 O) (hm:SmAt w M n (.int .i64 0) (aJ O)) {ds:List Dp} {vd:Value} (hp:DepsAt w vd ds) (hfit:lM O ds) (kd:Int) (t:Nat):Calls Tryz.prog 214 #[.agg #[v4,.map (some M)],vd,.int .i64 kd] w fun e w'=>∃ v,e= .returned v∧∃ ps,OwnWt w' w.heap.size v ps∧eK O kd t ds ps∧Below w.heap.size w w':=by
 obtain ⟨ad,cap,rfl,hcap,_⟩:=h.el;obtain ⟨p2,r2,rfl,_,_⟩:=hp.el;have HFD:=aA hfit.2;have hfl:=hfit.1;have HCL:Hid (∀ (W:World) (u:Value) (R:List Sp),SpansC W u R→R.length*48≤140737488355328→Calls Tryz.prog 138 #[u] W fun e w'=>∃ v',e= .returned v'∧OwnS w' W.heap.size v' R∧Below W.heap.size W w'):=fun W u R hu hr=>xK hu hr
 have HSC:Hid (∀ (s:ByteArray) (W:World),s.size≤281474976710656→Calls Tryz.prog 78 #[.string s] W fun e w'=>e= .returned (.string s)∧Below W.heap.size W w'):=fun s W hs=>eM s hs W
 have HOV2:Hid (Below w.heap.size w (w.alloc (.cells #[.slice ad O.length cap,.map (some M)] 249))):=aD _ _;have HSW:Hid (SmAt (w.alloc (.cells #[.slice ad O.length cap,.map (some M)] 249)) M n (.int .i64 0) (aJ O)):=hm.below (aD _ _);have k0:(w.alloc (.cells #[.slice ad O.length cap,.map (some M)] 249)).cell? ⟨w.heap.size,0,none⟩=some (.slice ad O.length cap):=by simp
 have k1:(w.alloc (.cells #[.slice ad O.length cap,.map (some M)] 249)).cell? ⟨w.heap.size,1,none⟩=some (.map (some M)):=by simp
 have hkl:w.heap.size<(w.alloc (.cells #[.slice ad O.length cap,.map (some M)] 249)).heap.size:=by simp
 have HEL:Hid (∀ k (_:k<ds.length),∃ g o,p2=some ⟨g,o,none⟩∧∃ au nu cu,DpIn (w.alloc (.cells #[.slice ad O.length cap,.map (some M)] 249)) g (o+k*2) ds[k] (.slice au nu cu)):=by
  obtain ⟨ad',cap',e,_,hel⟩:=(hp.below HOV2.out).el;injection e with e1 _ _
  subst e1;exact hel
 have HDO:Hid (DepsAt (w.alloc (.cells #[.slice ad O.length cap,.map (some M)] 249)) (.slice ad O.length cap) O):=h.below HOV2.out;clear h hp hfit hm
 go_enter Tryz.func214,Tryz.ntmps214
 go_upto_region 1 with fail
 obtain ⟨KB,hKB⟩:∃ k,k=w.heap.size:=⟨_,rfl⟩;rw [←hKB] at k0 k1 hkl;rw [←hKB];generalize (w.alloc (.cells #[.slice ad O.length cap,.map (some M)] 249))=W at*;clear hKB
 go_wp2_with fail
 go_loopw [7,12] (fun vo vi wr=>∃ (k:Nat) (ps:List (Wt×List Sp)),k≤ds.length∧vi= .int .i64 k∧OwnWt wr W.heap.size vo ps∧eK O kd t (ds.take k) ps∧Below W.heap.size W wr) (fun _ vi _=>ds.length - (intOf vi).toNat)
 case atStart=>exact ⟨0,[],Nat.zero_le _,rfl,OwnWt.nil _ _,⟨rfl,fun i p hi=>by simp at hi⟩,Below.refl _ _⟩
 case round=>
  obtain ⟨k,ps,hk,rfl,hod,hps,hb⟩:=hrel;obtain ⟨ao,co,rfl⟩:=hod.len;have HBR:=aA hb;have HOD:=aA hod;have HPS:=aA hps;have hpl:ps.length=k:=by have:=hps.1;rw [List.length_take] at this;omega
  have hpz:ps.length≤100000000:=by omega
  clear hb hod hps hpl
  by_cases hlt:k<ds.length
  · have hki:(k:Int)<(ds.length:Int):=by omega
    obtain ⟨g,o,rfl,au,nu,cu,c0,c1,hsp,hg⟩:=HEL.out k hlt;obtain ⟨hz1,hz2⟩:=HFD.out _ (List.getElem_mem hlt);have HTK:Hid (ds.take (k+1)=ds.take k++[ds[k]]∧(ds.take k).length=k):=⟨List.take_succ_eq_append_getElem hlt,by rw [List.length_take];omega⟩;obtain ⟨d,hd⟩:∃ d,d=ds[k]:=⟨_,rfl⟩;rw [←hd] at c0 hsp hz1 hz2 HTK;have d0:=(HBR.out.cell (p:=⟨g,o+k*2,none⟩) hg).trans c0;have d1:=(HBR.out.cell (p:=⟨g,o+k*2+1,none⟩) hg).trans c1;have HDL:Hid (d.rg.length≤9223372036854775807∧d.nm.size≤9223372036854775807):=⟨hsp.2,by omega⟩;have HKD:Hid (KeepP fun X=>((Below W.heap.size W X∧OwnWt X W.heap.size (.slice ao ps.length co) ps)∧(SmAt X M n (.int .i64 0) (aJ O)∧DepsAt X (.slice ad O.length cap) O))∧SpansC X (.slice au nu cu) d.rg):=fun p q hx hpq=>⟨⟨⟨aB hx.1.1.1 hpq,hx.1.1.2.below hpq⟩,hx.1.2.1.below hpq,hx.1.2.2.below hpq⟩,hx.2.below hpq⟩
    have HO0:Hid (((Below W.heap.size W wr∧OwnWt wr W.heap.size (.slice ao ps.length co) ps)∧(SmAt wr M n (.int .i64 0) (aJ O)∧DepsAt wr (.slice ad O.length cap) O))∧SpansC wr (.slice au nu cu) d.rg):=⟨⟨⟨HBR.out,HOD.out⟩,HSW.out.below HBR.out,HDO.out.below HBR.out⟩,hsp.1.below HBR.out⟩;have HO:Hid (((Below W.heap.size W (wr.alloc (.cells #[.string d.nm,.slice au nu cu] 89)).drew∧OwnWt (wr.alloc (.cells #[.string d.nm,.slice au nu cu] 89)).drew W.heap.size (.slice ao ps.length co) ps)∧(SmAt (wr.alloc (.cells #[.string d.nm,.slice au nu cu] 89)).drew M n (.int .i64 0) (aJ O)∧DepsAt (wr.alloc (.cells #[.string d.nm,.slice au nu cu] 89)).drew (.slice ad O.length cap) O))∧SpansC (wr.alloc (.cells #[.string d.nm,.slice au nu cu] 89)).drew (.slice au nu cu) d.rg):=HKD.out _ _ (HKD.out _ _ HO0.out (aD _ _)) (Below.refl _ _).drew;have hkr:KB<wr.heap.size:=Nat.lt_of_lt_of_le hkl HBR.out.size
    have HBX:Hid (∀ X,Below (wr.alloc (.cells #[.string d.nm,.slice au nu cu] 89)).heap.size (wr.alloc (.cells #[.string d.nm,.slice au nu cu] 89)) X→X.cell? ⟨wr.heap.size,0,none⟩=some (.string d.nm)∧X.cell? ⟨wr.heap.size,1,none⟩=some (.slice au nu cu)∧X.cell? ⟨KB,0,none⟩=some (.slice ad O.length cap)∧X.cell? ⟨KB,1,none⟩=some (.map (some M))):=fun X hb=>by
     have hq:Below W.heap.size W X:=aB (aB HBR.out (aD _ _)) hb;exact ⟨(hb.cell (p:=⟨wr.heap.size,0,none⟩) (by simp)).trans (by simp),(hb.cell (p:=⟨wr.heap.size,1,none⟩) (by simp)).trans (by simp),(hq.cell (p:=⟨KB,0,none⟩) hkl).trans k0,(hq.cell (p:=⟨KB,1,none⟩) hkl).trans k1⟩
    have HBB:Hid (Below (wr.alloc (.cells #[.string d.nm,.slice au nu cu] 89)).heap.size (wr.alloc (.cells #[.string d.nm,.slice au nu cu] 89)) (wr.alloc (.cells #[.string d.nm,.slice au nu cu] 89)).drew):=(Below.refl _ _).drew;have m0:=(HBR.out.cell (p:=⟨KB,0,none⟩) hkl).trans k0;have m1:=(HBR.out.cell (p:=⟨KB,1,none⟩) hkl).trans k1;have hle:W.heap.size≤wr.heap.size:=HBR.out.size
    have HNE:Hid (∀ q,(q=wr.heap.size∨q=KB)→some q≠(Value.slice ao ps.length co).ownBlock):=fun q hq e=>by
     have:=HOD.out.1.lt _ e.symm
     omega
    have HRO:Hid (∀ X,(((Below W.heap.size W X∧OwnWt X W.heap.size (.slice ao ps.length co) ps)∧(SmAt X M n (.int .i64 0) (aJ O)∧DepsAt X (.slice ad O.length cap) O))∧SpansC X (.slice au nu cu) d.rg)→Calls Tryz.prog 239 #[.agg #[.slice ad O.length cap,.map (some M)],.agg #[.string d.nm,.slice au nu cu]] X fun e w'=>∃ a9 b9 c9,e= .returned (.slice a9 b9 c9)∧SpansC w' (.slice a9 b9 c9) (bV O d)∧Below X.heap.size X w'):=fun X hx=>(pZ hx.1.2.2 hx.1.2.1 d hx.2 HDL.out.1 HDL.out.2).mono fun e w' hq=>by
     obtain ⟨v,h1,h2,h3,h4⟩:=hq;have h2':=h2;obtain ⟨⟨a9,c9,rfl,_⟩,_⟩:=h2;exact ⟨a9,_,c9,h1,h2',h4⟩
    have HFIN:Hid (∀ (w5 w6 w7:World) (a7:Option Addr) (n7 c7:Nat) (v1:Value),(((Below W.heap.size W w5∧OwnWt w5 W.heap.size (.slice ao ps.length co) ps)∧(SmAt w5 M n (.int .i64 0) (aJ O)∧DepsAt w5 (.slice ad O.length cap) O))∧SpansC w5 (.slice au nu cu) d.rg)→(((Below W.heap.size W w6∧OwnWt w6 W.heap.size (.slice ao ps.length co) ps)∧(SmAt w6 M n (.int .i64 0) (aJ O)∧DepsAt w6 (.slice ad O.length cap) O))∧SpansC w6 (.slice au nu cu) d.rg)→OwnS w6 w5.heap.size (.slice a7 n7 c7) (bV O d)→w7.ownsRow W.heap.size 161 3 v1 (ps.length+1) ((ps.map (·.1)).flatMap fK++[.string d.nm,.int .i64 kd,.slice a7 n7 c7])→w6.grownBy w7 (Value.slice ao ps.length co).ownBlock→∃ q,OwnWt w7 W.heap.size v1 (ps++[q])∧eK O kd t (ds.take (k+1)) (ps++[q])∧Below W.heap.size W w7):=fun w5 w6 w7 a7 n7 c7 v1 h5 h6 hs ho hg=>by
     refine ⟨(⟨d.nm,kd,a7,n7,c7,t+k⟩,bV O d),OwnWt.snoc h6.1.1.2 (hs.base h5.1.1.1.size) (qM (x:=⟨d.nm,kd,a7,n7,c7,t+k⟩) h5.1.1.2 hs) ho hg,?_,h6.1.1.1.trans (dN hg (fun g e=>(h6.1.1.2.1.lt g e).1) h6.1.1.1.size)⟩;rw [HTK.out.1];exact CS HPS.out rfl rfl (by rw [HTK.out.2]) rfl
    clear hcap hd
    go_wp2_with fail
    go_region_held3 (fun w'=>w'.cell? ⟨wr.heap.size,0,none⟩=some (.string d.nm)∧w'.cell? ⟨wr.heap.size,1,none⟩=some (.slice au nu cu)∧w'.cell? ⟨KB,0,none⟩=some (.slice ad O.length cap)∧w'.cell? ⟨KB,1,none⟩=some (.map (some M))) (go_keep) (first
     |(refine nH (B:=W.heap.size) (M:=w7.heap.size) (wx:=w7) (v:= .slice ao ps.length co) GD Tryz.underlying111 rfl (by decide) (by decide) rfl (.tmp 16) (.tmp 26) rfl rfl HO7.out.1.1.2.1 hB7 #[.string d.nm,.int .i64 kd,.slice a7 n7 c7] rfl (by simp [Value.oneCell']) rfl rfl (by omega) ?_;intro v1 w8 ho hgr hat;obtain ⟨g8,cap8,rfl,_⟩:=ho.form (by omega);have HP:=aA (HFIN.out _ _ _ _ _ _ _ HO6.out HO7.out HS7.out ho (cR (aD _ _) hgr));have z0:=(cR (aD _ _) hgr).cell y0 (HNE.out _ (Or.inl rfl));have z1:=(cR (aD _ _) hgr).cell y1 (HNE.out _ (Or.inl rfl));have z2:=(cR (aD _ _) hgr).cell y2 (HNE.out _ (Or.inr rfl));have z3:=(cR (aD _ _) hgr).cell y3 (HNE.out _ (Or.inr rfl));clear ho hgr hat)
     |(go_at_call 138;refine (HCL.out _ _ _ HV6.out hz2).mono ?_;rintro e w7 ⟨vs,rfl,hos,hb7⟩;have HB7:=aA (aB HB6.out hb7);have HO7:=aA (HKD.out _ _ HO6.out hb7);obtain ⟨y0,y1,y2,y3⟩:=HBX.out _ HB7.out;have HS0:=aA hos;obtain ⟨a7,c7,hvs,_,_⟩:=hos.sp;obtain ⟨n7,hn7⟩:∃ n,n=(bV O d).length:=⟨_,rfl⟩;rw [←hn7] at hvs;subst hvs;have HS7:Hid (OwnS w7 w6.heap.size (.slice a7 n7 c7) (bV O d)):=HS0.out;have hB7:W.heap.size≤w7.heap.size:=HO7.out.1.1.1.size;clear hb7 hos hn7 HS0)
     |(go_at_call 239;refine (HRO.out _ HO5.out).mono ?_;rintro e w6 ⟨a9,b9,c9,rfl,hv6,hb6⟩;have HV6:=aA hv6;have HB6:=aA (aB HB5.out hb6);have HO6:=aA (HKD.out _ _ HO5.out hb6);obtain ⟨t0,t1,t2,t3⟩:=HBX.out _ HB6.out;clear hb6 hv6)
     |(go_at_call 78;refine (HSC.out _ _ hz1).mono ?_;rintro e w5 ⟨rfl,hb5⟩;have HB5:=aA (aB HBB.out hb5);have HO5:=aA (HKD.out _ _ HO.out hb5);obtain ⟨x0,x1,x2,x3⟩:=HBX.out _ HB5.out;clear hb5))
    all_goals go_wp2
    all_goals (obtain ⟨q9,hq1,hq2,hq3⟩:=HP.out;exact ⟨⟨k+1,_,by omega,by go_num,hq1,hq2,hq3⟩,by simp [intOf];omega⟩)
  · obtain rfl:k=ds.length:=by omega
    have HPL:Hid (eK O kd t ds ps):=by
     have e:=HPS.out;rw [List.take_length] at e;exact e
    have hki:¬ ((ds.length:Int)<(ds.length:Int)):=by omega
    clear HPS
    go_wp2
    go_ret;exact ⟨_,rfl,ps,HOD.out.base HOV2.out.size,HPL.out,aB HOV2.out HBR.out⟩
end Go.Proofs.YtpfemjlhklnfoaaGreatDoor
