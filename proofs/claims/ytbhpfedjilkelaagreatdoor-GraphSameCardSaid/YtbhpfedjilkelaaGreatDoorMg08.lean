/- Gv3, Gl1, Rk9, Lt1, Fl1, Wa3, Wa4, St1: their declarations that are needed, laid in one text, remarks and blanks left out. -/
import Derived.Test.YtbhpfedjilkelaaGreatDoorMg07
namespace Go.Proofs.YtbhpfedjilkelaaGreatDoor
open Go.RowKit Go.Maps Go.WideMaps Go.Sort
set_option maxRecDepth 100000
def GrB (G:List Nd):Prop:=(G.length≤17592186044416∧vU G≤4611686018427387000)∧∀ n ∈ G,SzN n
def StR (w:World) (v:Value) (q c:Nat) (S:List Nat) (tot:Nat) (wr:World):Prop:=
 (Below w.heap.size w wr∧BxG wr w.heap.size v)∧(CntI wr (w.heap.size+1) tot S tot∧OwnN wr (w.heap.size+1) (.slice (some ⟨q,0,none⟩) S.length c) S)∧q≠w.heap.size+1
theorem CntI.below {w w':World} {M n tot:Nat} {S:List Nat} (h:CntI w M n S tot) (hb:Below w.heap.size w w'):CntI w' M n S tot:=by
 obtain ⟨D,c,⟨es,cl,h1,r⟩,h2⟩:=h;have hM:=(Array.getElem?_eq_some_iff.1 h1).1;exact ⟨D,c,⟨es,cl,(hb.block M hM).trans h1,r⟩,h2⟩
theorem jB (w:World) (v:Value) (q c:Nat) (S:List Nat) (tot:Nat):KeepP (StR w v q c S tot):=fun _ _ h hb=>
 ⟨⟨aB h.1.1 hb,aS _ _ _ _ h.1.2 hb⟩,⟨h.2.1.1.below hb,h.2.1.2.below hb⟩,h.2.2⟩
theorem uI (g o:Nat) (n:Nd) (vc ve:Value):KeepP fun W=>NdIn W g o n vc ve:=fun _ _ h hb=>h.below hb
def pQ (w:World) (G:List Nd) (e:Ending) (w':World):Prop:=∃ ad c,e= .returned (.slice ad (eU G).length c)∧OwnN w' w.heap.size (.slice ad (eU G).length c) (eU G)∧Below w.heap.size w w'
theorem OwnN.base {w:World} {B B':Nat} {v:Value} {l:List Nat} (h:OwnN w B v l) (hb:B'≤B):OwnN w B' v l:=⟨h.1,h.2.imp id fun ⟨g,cap,cur,e,hB,r⟩=>⟨g,cap,cur,e,Nat.le_trans hb hB,r⟩⟩
theorem StR.put {w:World} {v:Value} {q c tot:Nat} {S:List Nat} {wr w3:World} (h:StR w v q c S tot wr) (hc:CntI w3 (w.heap.size+1) (tot+1) S (tot+1)) (hg:wr.grownBy w3 (some (w.heap.size+1))):StR w v q c S (tot+1) w3:=
 ⟨⟨h.1.1.grown hg h.1.1.size (fun k hk=>by cases hk;omega),hg.cell h.1.2.1 (by simp),Nat.lt_of_lt_of_le h.1.2.2 hg.size⟩,⟨hc,h.2.1.2.kept hg (Or.inr (by simp [Value.ownBlock];exact h.2.2))⟩,h.2.2⟩
theorem StR.app {w:World} {v:Value} {q c tot t:Nat} {S:List Nat} {wr w1:World} {v1:Value} (h:StR w v q c S tot wr) (ho:w1.ownsRow (w.heap.size+1) 3 1 v1 (S.length+1) (gW S++[.int .i64 (t:Int)])) (hg:wr.grownBy w1 (some q)) (hat:v1.ownBlock=some q∨v1.ownBlock=some wr.heap.size):
 ∃ q2 c2,v1= .slice (some ⟨q2,0,none⟩) (S.length+1) c2∧(Below w.heap.size w w1∧BxG w1 w.heap.size v)∧(CntI w1 (w.heap.size+1) tot S tot∧OwnN w1 (w.heap.size+1) (.slice (some ⟨q2,0,none⟩) (S++[t]).length c2) (S++[t]))∧q2≠w.heap.size+1:=by
 have hq:=(World.ownsRow.lt h.2.1.2 q rfl).1
 have hM:w.heap.size+1<wr.heap.size:=by
  obtain ⟨D,c,h1,_⟩:=h.2.1.1;exact h1.lt
 have hq2:=h.2.2;obtain ⟨q2,c2,rfl,_⟩:=ho.form (by omega);refine ⟨q2,c2,rfl,⟨h.1.1.grown hg h.1.1.size (fun k hk=>by cases hk;omega),hg.cell h.1.2.1 (by simp;omega),Nat.lt_of_lt_of_le h.1.2.2 hg.size⟩,⟨h.2.1.1.kept hg (by simp;omega),?_⟩,?_⟩
 · unfold OwnN
   rw [pM,List.length_append];exact ho
 · rcases hat with e|e<;>simp [Value.ownBlock] at e<;>omega
theorem StR.up {w:World} {v:Value} {q2 c2 tot t:Nat} {S:List Nat} {w1:World} (h:(Below w.heap.size w w1∧BxG w1 w.heap.size v)∧(CntI w1 (w.heap.size+1) tot S tot∧OwnN w1 (w.heap.size+1) (.slice (some ⟨q2,0,none⟩) (S++[t]).length c2) (S++[t]))∧q2≠w.heap.size+1) (ht:t<4611686018427387904) (htot:tot<4611686018427387904):
 ∃ k:Nat,k≤tot∧(Instr.lookup 118 (.map (some (w.heap.size+1))) (.int .i64 (t:Int)) false).run Tryz.prog w1= .ok (.int .i64 (k:Int)) w1∧∃ w3,(Instr.mapUpdate 118 (.map (some (w.heap.size+1))) (.int .i64 (t:Int)) (.int .i64 ((k:Int)+1))).run Tryz.prog w1= .ok () w3∧StR w v q2 c2 (S++[t]) (tot+1) w3:=by
 obtain ⟨k,_,hk,hsp⟩:=h.2.1.1.step (t:=t) (S':=S++[t]) ht (by unfold maxLen;omega) (fun y=>by simp);obtain ⟨hl,w3,hu,hc3,hg3⟩:=hsp w1 none ⟨rfl,rfl,rfl,Nat.le_refl _,fun _ _ _=>rfl⟩ (by simp);refine ⟨k,hk,hl,w3,hu,⟨h.1.1.grown hg3 h.1.1.size (fun k hk=>by cases hk;omega),hg3.cell h.1.2.1 (by simp),Nat.lt_of_lt_of_le h.1.2.2 hg3.size⟩,⟨hc3,h.2.1.2.kept hg3 (Or.inr (by simp [Value.ownBlock];exact h.2.2))⟩,h.2.2⟩
theorem pR {v:Value} {w:World} (hG:NodesAt w v []):
 Calls Tryz.prog 32 #[.agg #[v]] w fun e w'=>pQ w [] e w':=by
 obtain ⟨ad,cap,rfl,_⟩:=hG;have HQ:Hid (∀ w',Below w.heap.size w w'→pQ w [] (.returned (.slice none 0 0)) w'):=fun w' hb=>⟨none,0,rfl,⟨rfl,Or.inl ⟨rfl,rfl⟩⟩,hb⟩
 go_enter Tryz.func32,Tryz.ntmps32
 go_wp2
 go_ret;exact HQ.out _ (aD _ _)
set_option maxHeartbeats 25600000 in
theorem mS {G:List Nd} {g o cap:Nat} {w:World} (hn:0<G.length) (hx:∀ i (h:i<G.length),∃ vc ve,NdIn w g (o+i*6) G[i] vc ve) (hB:GrB G):
 Calls Tryz.prog 32 #[.agg #[.slice (some ⟨g,o,none⟩) G.length cap]] w fun e w'=>pQ w G e w':=by
 have HX:=aA hx;have HSZ:=aA hB.2;obtain ⟨⟨hb1,hb2⟩,_⟩:=hB;have HSE:=aA hb2;have HQ:Hid (∀ ad c w',OwnN w' (w.heap.size+1) (.slice ad (eU G).length c) (eU G)→Below w.heap.size w w'→pQ w G (.returned (.slice ad (eU G).length c)) w'):=fun ad c w' h hb=>⟨ad,c,rfl,h.base (by omega),hb⟩
 have HSO:Hid (∀ wr q c S,OwnN wr (w.heap.size+1) (.slice (some ⟨q,0,none⟩) S.length c) S→RI G.length S→Calls Tryz.prog 72 #[.slice (some ⟨q,0,none⟩) S.length c] wr fun e w'=>e= .returned (.tuple #[])∧(OwnN w' (w.heap.size+1) (.slice (some ⟨q,0,none⟩) S.length c) ((List.range G.length).filter fun i=>decide (i ∈ S))∧((List.range G.length).filter fun i=>decide (i ∈ S)).length=S.length)∧wr.grownBy w' (some q)):=fun wr q c S h1 h2=>wS h1 h2 (by omega)
 have hmm:= @run_makeMap Tryz.prog
 have h0:((w.alloc (.cells #[.slice (some ⟨g,o,none⟩) G.length cap] 55)).alloc (.map #[] 0)).ownsMap Tryz.prog 3 fC (w.heap.size+1) 0 (.map []):=by
  have e:=World.ownsMap_made (H:=Value) (w.alloc (.cells #[.slice (some ⟨g,o,none⟩) G.length cap] 55)) Tryz.prog 3 fC
  simpa using e
 obtain ⟨W2,hup,hc2,hg2⟩:=CntI.one h0;have HB1:Hid (Below w.heap.size w ((w.alloc (.cells #[.slice (some ⟨g,o,none⟩) G.length cap] 55)).alloc (.map #[] 0))∧BxG ((w.alloc (.cells #[.slice (some ⟨g,o,none⟩) G.length cap] 55)).alloc (.map #[] 0)) w.heap.size (.slice (some ⟨g,o,none⟩) G.length cap)):=⟨aT _ _ _,aS _ _ _ _ (BxG.new rfl _) (aD _ _)⟩
 have HST0:Hid (StR w (.slice (some ⟨g,o,none⟩) G.length cap) W2.heap.size 1 [0] 1 (W2.alloc (.cells #[.int .i64 0] 3))):=by
  have hs:w.heap.size+2≤W2.heap.size:=by have:=hg2.size;simpa using this
  have hbb:=aD W2 (.cells #[.int .i64 0] 3);have b1:Below w.heap.size w W2:=HB1.out.1.grown hg2 HB1.out.1.size (fun k hk=>by cases hk;omega);have b2:BxG W2 w.heap.size (.slice (some ⟨g,o,none⟩) G.length cap):=⟨hg2.cell HB1.out.2.1 (by simp),Nat.lt_of_lt_of_le HB1.out.2.2 hg2.size⟩;refine ⟨⟨aB b1 hbb,aS _ _ _ _ b2 hbb⟩,⟨hc2.below hbb,⟨rfl,Or.inr ⟨W2.heap.size,1,#[.int .i64 0],rfl,by omega,heap_alloc_new _ _,Nat.le_refl _,by unfold maxLen;omega,rfl,rfl⟩⟩⟩,by omega⟩
 have hn0:((G.length:Int)==0)=false:=by rw [beq_eq_false_iff_ne];omega
 clear hx hc2 hg2 h0 HB1 hb2
 go_enter Tryz.func32,Tryz.ntmps32
 go_wp2_with fail
 clear hup
 go_loopw [4,5] (fun v4 v5 wr=>∃ (i q c tot:Nat) (S:List Nat),v4= .slice (some ⟨q,0,none⟩) S.length c∧v5= .int .i64 (i:Nat)∧RJ G i S∧tot≤1+gU G (S.take i)∧StR w (.slice (some ⟨g,o,none⟩) G.length cap) q c S tot wr) (fun _ v5 _=>G.length+1 - (intOf v5).toNat)
 case atStart=>exact ⟨0,W2.heap.size,1,1,[0],rfl,rfl,RJ.one hn,by simp [gU],HST0.out⟩
 case round=>
  clear HST0;obtain ⟨i,q,c,tot,S,rfl,rfl,hrj,htot,hst⟩:=hrel;have HRJ:=aA hrj;have HST:=aA hst;have HTOT:=aA htot;have hSl:=hrj.ri.len
  by_cases hlt:i<S.length
  · have hqn:=hrj.ri.lt _ (List.getElem_mem hlt)
    obtain ⟨vc,ve,hndw⟩:=HX.out S[i] hqn;have hnd:=hndw.below hst.1.1;have hin:=OwnN.at hst.2.1.2 hlt;have HED:Hid (edA G S[i]=G[S[i]].ed):=vS hqn;have hle:=(HSZ.out _ (List.getElem_mem hqn)).2;have HNX:Hid (∀ S',iV G.length S (edA G S[i])=S'→RI G.length S'→i+1≤S'.length→RJ G (i+1) S'):=fun S' h1 h2 h3=>HRJ.out.next hlt h1 h2 h3
    have HDG:Hid (gU G (S.take (i+1))=gU G (S.take i)+(edA G S[i]).length∧gU G (S.take (i+1))≤vU G):=⟨pB hlt,HRJ.out.ri.deg (i+1)⟩;rw [HED.out] at HNX HDG;generalize hr:S[i]=r at*;have hqi:(r:Int)<G.length:=by omega
    have hq0:(0:Int)≤r:=by omega
    obtain ⟨ae,ce,rfl⟩:=hnd.2.1.2.sl;obtain ⟨ac,cc,rfl⟩:=hnd.2.1.1.sl;generalize G[r]=x at*;have HEA:Hid (∀ w1,Below w.heap.size w w1→EdgesAt w1 (.slice ae x.ed.length ce) x.ed):=fun w1 h1=>hndw.2.1.2.below h1
    have HK:Hid (KeepP fun w1=>StR w (.slice (some ⟨g,o,none⟩) G.length cap) q c S tot w1∧NdIn w1 g (o+r*6) x (.slice ac x.cx.length cc) (.slice ae x.ed.length ce)∧InN w1 q i (r:Int)):=(jB _ _ _ _ _ _).and ((uI _ _ _ _ _).and (uF _ _ _));have HO:Hid (StR w (.slice (some ⟨g,o,none⟩) G.length cap) q c S tot wr∧NdIn wr g (o+r*6) x (.slice ac x.cx.length cc) (.slice ae x.ed.length ce)∧InN wr q i (r:Int)):=⟨hst,hnd,hin⟩;have hil:(i:Int)<S.length:=by omega
    have hi0:(0:Int)≤i:=by omega
    have hSc:S.length≤c:=by
     rcases hst.2.1.2.2 with ⟨e,_⟩|⟨g',cap',cur,hv,_,_,h1,_⟩
     · cases e
     · cases hv;exact h1
    clear hrj hst htot hnd hndw hin HED
    go_wp2_with fail
    refine bE HK (by kernel_rfl) (by kernel_rfl) (by first|exact HO.out|exact HK.out.drew HO.out) ?_;intro C HIN HOUT;clear HO
    repeat
     (with_reducible refine wpQuiet_step (fun K hK=> ?_)
      go_simp
      first
       |(refine hK _ ?_;clear hK K)
       |(apply Exists.intro;refine ⟨fun w1 hC=> ?_,hK _ ?_⟩;(focus ((first|(exact rfl)|(obtain ⟨⟨⟨hbw,y0,y1⟩,_,hqm⟩,⟨⟨x0,x1,x2,x3,x4,x5⟩,_,x6⟩,k0,k1⟩:=HOUT.out w1 hC;clear hC;go_simp;first|done|exact rfl));done));clear hK K))
    refine wpQuiet_nil ?_;intro wn hC;have HO:=aA (HOUT.out _ hC);clear hC HIN HOUT C;obtain ⟨⟨⟨hbw,y0,y1⟩,_,hqm⟩,⟨⟨x0,x1,x2,x3,x4,x5⟩,_,x6⟩,k0,k1⟩:=HO.out;have HST2:=aA HO.out.1;clear HO HK HST x0 x1 x2 x3 x4 x5 x6 k0 k1 y0 y1 hqm hbw;generalize hlx:x.ed.length=le at*;have HLX:=aA hlx;clear hlx
    go_wp2_with fail
    go_loopw [4,31] (fun v4 vj wq=>∃ (j q' c' tot':Nat) (S':List Nat),v4= .slice (some ⟨q',0,none⟩) S'.length c'∧vj= .int .i64 (j:Nat)∧j≤le∧(RI G.length S'∧S<+:S'∧iV G.length S' (x.ed.drop j)=iV G.length S x.ed)∧tot'≤tot+j∧StR w (.slice (some ⟨g,o,none⟩) G.length cap) q' c' S' tot' wq) (fun _ vj _=>le - (intOf vj).toNat)
    case atStart=>exact ⟨0,q,c,tot,S,rfl,rfl,Nat.zero_le _,⟨HRJ.out.ri,List.prefix_refl _,rfl⟩,Nat.le_refl _,HST2.out⟩
    case round=>
     clear HST2;obtain ⟨j,q',c',tot',S',rfl,rfl,hj,⟨hri,hpre,hvis⟩,htot',hst'⟩:=hrel;have HST:=aA hst';have HRI:=aA hri;have HPRE:=aA hpre;have HVIS:=aA hvis;have hea:=HEA.out wr hst'.1.1;have hS'l:=hri.len
     by_cases hjl:j<le
     · have hjx:j<x.ed.length:=by have:=HLX.out;omega
       obtain ⟨gp,op,rfl,hcp,hei⟩:∃ gp op,ae=some ⟨gp,op,none⟩∧le≤ce∧EgIn wr gp (op+j*2) x.ed[j]:=by
        obtain ⟨a1,c1,hv,hc,hl⟩:=hea;cases hv
        rcases hl with h|⟨g,o,rfl,_,hs⟩
        · rw [h] at hjx;cases hjx
        · exact ⟨g,o,rfl,by have:=HLX.out;omega,hs j hjx⟩
       have HVS:Hid (iV G.length (iU G.length S' x.ed[j].to) (x.ed.drop (j+1))=iV G.length S x.ed):=by
        unfold Hid;rw [←pA hjx];exact hvis
       have htm:tot'<4611686018427387900:=by
        have h1:=HDG.out;have h2:=HTOT.out;have h3:=HSE.out;have h4:=HLX.out;omega
       generalize x.ed[j]=ee at*;obtain ⟨elb,eto⟩:=ee
       simp only at HVS
       have HAW:Hid (StR w (.slice (some ⟨g,o,none⟩) G.length cap) q' c' S' tot' (wr.alloc (.cells #[.string elb,.int .i64 eto] 77))):=jB _ _ _ _ _ _ _ _ hst' (aD _ _);obtain ⟨⟨e0,e1⟩,e6⟩:=hei
       simp only at e0 e1
       have y0:=HAW.out.1.2.1;have z1:(wr.alloc (.cells #[.string elb,.int .i64 eto] 77)).cell? ⟨wr.heap.size,1,none⟩=some (.int .i64 eto):=by simp
       clear hst' hea hri hpre hvis
       by_cases hr0:0≤eto∧eto<(G.length:Int)
       · obtain ⟨t,rfl⟩:=Int.eq_ofNat_of_zero_le hr0.1
         have htn:t<G.length:=by omega
         have hd1:decide ((t:Int)<0)=false:=decide_eq_false (by omega);have hd3:decide ((G.length:Int)≤(t:Int))=false:=decide_eq_false (by omega)
         by_cases hts:t ∈ S'
         · rw [rQ hts] at HVS
           obtain ⟨k,hk0,hkt,hsp⟩:=HAW.out.2.1.1.step (t:=t) (S':=S') (by omega) (by unfold maxLen;omega) (fun y=>⟨Or.inl,fun h=>h.elim id fun h=>h ▸ hts⟩);obtain ⟨hl,w3,hu,hc3,hg3⟩:=hsp _ none ⟨rfl,rfl,rfl,Nat.le_refl _,fun _ _ _=>rfl⟩ (by simp);have hkp:=hk0.2 hts;have hk1:((k:Int)==0)=false:=by simp;omega
           have hkm:k≤4611686018427387900:=by omega
           have HR:Hid (StR w (.slice (some ⟨g,o,none⟩) G.length cap) q' c' S' (tot'+1) w3):=HAW.out.put hc3 hg3;clear hk0 hsp hc3 hg3
           go_wp2_with fail
           exact ⟨⟨j+1,q',c',tot'+1,S',rfl,by go_num,by omega,⟨HRI.out,HPRE.out,HVS.out⟩,by omega,HR.out⟩,by simp [intOf];omega⟩
         · rw [rR htn hts] at HVS
           have hri2:=HRI.out.snoc htn hts;have HRI2:=aA hri2;have hl2:=hri2.len;rw [List.length_append,List.length_singleton] at hl2;obtain ⟨k,hk0,hkt,hsp⟩:=HAW.out.2.1.1.step (t:=t) (S':=S'++[t]) (by omega) (by unfold maxLen;omega) (fun y=>by simp);obtain ⟨hl,_⟩:=hsp _ none ⟨rfl,rfl,rfl,Nat.le_refl _,fun _ _ _=>rfl⟩ (by simp)
           obtain rfl:k=0:=by
            rcases Nat.eq_zero_or_pos k with h|h
            · exact h
            · exact absurd (hk0.1 h) hts
           clear hk0 hsp hri2;have hq'm:=HAW.out.2.2;have hq'l:=(World.ownsRow.lt HST.out.2.1.2 q' rfl).2
           have HCE:Hid (∀ j u,[Value.int .i64 (t:Int)][j]? =some u→((wr.alloc (.cells #[.string elb,.int .i64 (t:Int)] 77)).alloc (.cells #[.int .i64 (t:Int)] 3)).cell? ((⟨wr.heap.size+1,0,none⟩:Addr).add j)=some u):=fun j u hju=>by
            cases j with
            |zero=>simp at hju;subst hju;simp [Addr.add]
            |succ j=>simp at hju
           have HAP:Hid (World.ownsRow ((wr.alloc (.cells #[.string elb,.int .i64 (t:Int)] 77)).alloc (.cells #[.int .i64 (t:Int)] 3)) (w.heap.size+1) 3 1 (.slice (some ⟨q',0,none⟩) S'.length c') S'.length (gW S')):=HAW.out.2.1.2.below (aD _ _);have HAW2:Hid (StR w (.slice (some ⟨g,o,none⟩) G.length cap) q' c' S' tot' ((wr.alloc (.cells #[.string elb,.int .i64 (t:Int)] 77)).alloc (.cells #[.int .i64 (t:Int)] 3))):=jB _ _ _ _ _ _ _ _ HAW.out (aD _ _)
           have hszz:w.heap.size+1≤((wr.alloc (.cells #[.string elb,.int .i64 (t:Int)] 77)).alloc (.cells #[.int .i64 (t:Int)] 3)).heap.size:=by
            have:=HAW2.out.1.2.2
            omega
           have z2:((wr.alloc (.cells #[.string elb,.int .i64 (t:Int)] 77)).alloc (.cells #[.int .i64 (t:Int)] 3)).cell? ⟨wr.heap.size,1,none⟩=some (.int .i64 (t:Int)):=by simp
           have HAPP:Hid (∀ v1 w1,World.ownsRow w1 (w.heap.size+1) 3 1 v1 (S'.length+1) (gW S'++[.int .i64 (t:Int)])→((wr.alloc (.cells #[.string elb,.int .i64 (t:Int)] 77)).alloc (.cells #[.int .i64 (t:Int)] 3)).grownBy w1 (some q')→(v1.ownBlock=some q'∨v1.ownBlock=some ((wr.alloc (.cells #[.string elb,.int .i64 (t:Int)] 77)).alloc (.cells #[.int .i64 (t:Int)] 3)).heap.size)→
            ∃ (q2 c2 k2:Nat) (w3:World),v1= .slice (some ⟨q2,0,none⟩) (S'.length+1) c2∧k2≤4611686018427387900∧w1.cell? ⟨w.heap.size,0,none⟩=some (.slice (some ⟨g,o,none⟩) G.length cap)∧w1.cell? ⟨wr.heap.size,1,none⟩=some (.int .i64 (t:Int))∧(Instr.lookup 118 (.map (some (w.heap.size+1))) (.int .i64 (t:Int)) false).run Tryz.prog w1= .ok (.int .i64 (k2:Int)) w1∧(Instr.mapUpdate 118 (.map (some (w.heap.size+1))) (.int .i64 (t:Int)) (.int .i64 ((k2:Int)+1))).run Tryz.prog w1= .ok () w3∧StR w (.slice (some ⟨g,o,none⟩) G.length cap) q2 c2 (S'++[t]) (tot'+1) w3):=fun v1 w1 ho hgr hat=>by
            obtain ⟨q2,c2,rfl,hap⟩:=HAW2.out.app ho hgr hat;obtain ⟨k2,hk2,hl2',w3,hu,hst3⟩:=StR.up hap (by omega) (by omega);exact ⟨q2,c2,k2,w3,rfl,by omega,hap.1.2.1,hgr.cell z2 (by simp;omega),hl2',hu,hst3⟩
           go_wp2_with (at_builtin;refine jA (B:=w.heap.size+1) (n:=S'.length) (m:=1) (news:=[.int .i64 (t:Int)]) sC Tryz.underlying70 rfl (by decide) rfl _ _ rfl rfl HAP.out hszz rfl rfl HCE.out (fun u hu=>by rw [List.mem_singleton.1 hu];rfl) (by omega) (by omega) ?_;intro v1 w1 ho hgr hat;obtain ⟨q2,c2,k2,w3,rfl,hkm,y2,z3,hl2,hu,hst3⟩:=HAPP.out v1 w1 ho hgr hat;have HR:=aA hst3;clear ho hgr hat hst3)
           exact ⟨⟨j+1,q2,c2,tot'+1,S'++[t],by rw [List.length_append];rfl,by go_num,by omega,⟨HRI2.out,HPRE.out.trans (List.prefix_append _ _),HVS.out⟩,by omega,HR.out⟩,by simp [intOf];omega⟩
       · have hvo:=rP (n:=G.length) (S:=S') hr0
         rw [hvo] at HVS
         by_cases hneg:eto<0
         · have hd1:decide (eto<0)=true:=decide_eq_true hneg
           clear hvo hr0
           go_wp2_with fail
           exact ⟨⟨j+1,q',c',tot',S',rfl,by go_num,by omega,⟨HRI.out,HPRE.out,HVS.out⟩,by omega,HAW.out⟩,by simp [intOf];omega⟩
         · have hd1:decide (eto<0)=false:=decide_eq_false hneg
           have hd3:decide ((G.length:Int)≤eto)=true:=decide_eq_true (by omega);clear hvo hr0 hneg
           go_wp2_with fail
           exact ⟨⟨j+1,q',c',tot',S',rfl,by go_num,by omega,⟨HRI.out,HPRE.out,HVS.out⟩,by omega,HAW.out⟩,by simp [intOf];omega⟩
     · have hje:j=le:=by omega
       subst hje
       have HRN:Hid (RJ G (i+1) S'∧tot'≤1+gU G (S'.take (i+1))):=by
        have e0:x.ed.drop j=[]:=by rw [←HLX.out,List.drop_length]
        have e1:=HVIS.out;rw [e0] at e1;have hl:=HPRE.out.length_le
        have htk:S'.take (i+1)=S.take (i+1):=by
         obtain ⟨r,hr⟩:=HPRE.out;rw [←hr,List.take_append_of_le_length (by omega)]
        refine ⟨HNX.out _ e1.symm HRI.out (by omega),?_⟩;rw [htk];have h1:=HDG.out;have h2:=HTOT.out;have h4:=HLX.out;omega
       clear hri hpre hvis hea htot' hst'
       go_wp2
       exact ⟨⟨i+1,q',c',tot',S',rfl,by go_num,HRN.out.1,HRN.out.2,HST.out⟩,by simp [intOf];omega⟩
  · have hie:i=S.length:=by have:=hrj.le;omega
    subst hie;have hdone:=hrj.done;have HLS:=aA (HSO.out _ _ _ _ hst.2.1.2 hrj.ri)
    have HRL:Hid (eU G=(List.range G.length).filter fun i=>decide (i ∈ S)):=by
     unfold Hid eU;rw [if_neg (by omega),←hdone]
    have hq1:=(World.ownsRow.lt hst.2.1.2 q rfl).1;clear hrj hst htot hdone
    go_wp2_with (go_at_call 72;refine HLS.out.mono ?_;rintro e w1 ⟨rfl,⟨ho,hlen⟩,hgr⟩;have HF:Hid (pQ w G (.returned (.slice (some ⟨q,0,none⟩) S.length c)) w1):=(by
     have b1:Below w.heap.size w w1:=HST.out.1.1.grown hgr HST.out.1.1.size (fun k hk=>by cases hk;omega);have q1:=HQ.out (some ⟨q,0,none⟩) c w1;rw [HRL.out,hlen] at q1;exact q1 ho b1);clear ho hlen hgr)
    go_ret;exact HF.out
theorem hR {G:List Nd} {v:Value} {w:World} (hG:NodesAt w v G) (hB:GrB G):
 Calls Tryz.prog 32 #[.agg #[v]] w fun e w'=>pQ w G e w':=by
 cases G with
 |nil=>exact pR hG
 |cons n r=>
  obtain ⟨ad,cap,rfl,hcap,hl⟩:=hG
  rcases hl with h|⟨g,o,rfl,hg,hs⟩
  · cases h
  · exact mS (by simp) hs hB
end Go.Proofs.YtbhpfedjilkelaaGreatDoor
namespace Go.Proofs.YtbhpfedjilkelaaGreatDoor
open Go.RowKit Go.Maps Go.WideMaps
set_option maxRecDepth 100000
theorem eM (w:World) (ad:Option Addr) (cap:Nat):EdgesAt w (.slice ad 0 cap) []:=⟨ad,cap,rfl,Nat.zero_le _,Or.inl rfl⟩
theorem fL (w:World) (ad:Option Addr) (cap:Nat):PinsAt w (.slice ad 0 cap) []:=⟨ad,cap,rfl,Nat.zero_le _,Or.inl rfl⟩
def ndB (s:ByteArray) (a b c:Int):Nd:=⟨s,a,b,c,[],[]⟩
set_option maxHeartbeats 1600000 in
theorem jC {s:ByteArray} {a b c:Int} {ac ae ao:Option Addr} {cc ce co:Nat} {w:World}:
 Calls Tryz.prog 114 #[.agg #[.string s,.int .i64 a,.int .i64 b,.int .i64 c,.slice ac 0 cc,.slice ae 0 ce],.slice ao 0 co] w fun e w'=>e= .returned (.bool true)∧Below w.heap.size w w':=by
 have hmm:= @run_makeMap Tryz.prog;have HC:Hid (∀ w1 u,Calls Tryz.prog 167 #[.slice ae 0 ce,.func (.func 168) #[] #[u]] w1 fun e w'=>e= .returned (.bool false)∧Below w1.heap.size w1 w'):=fun w1 u=>tM (L:=[]) (p:=fun _=>true) (eM w1 ae ce) (by simp) (fun w2 _ x hx=>by cases hx)
 have HB:Hid (∀ u:Value,(Below w.heap.size w (((w.alloc (.cells #[.string s,.int .i64 a,.int .i64 b,.int .i64 c,.slice ac 0 cc,.slice ae 0 ce] 67)).alloc (.map #[] 0)).alloc (.cells #[u] 210))∧BxNd (((w.alloc (.cells #[.string s,.int .i64 a,.int .i64 b,.int .i64 c,.slice ac 0 cc,.slice ae 0 ce] 67)).alloc (.map #[] 0)).alloc (.cells #[u] 210)) w.heap.size (ndB s a b c) (.slice ac 0 cc) (.slice ae 0 ce))):=fun u=>
  ⟨wK _ _ _ _,aJ _ _ _ _ _ _ (aJ _ _ _ _ _ _ (BxNd.new rfl (ndB s a b c) _ _) (aD _ _)) (aD _ _)⟩
 go_enter Tryz.func114,Tryz.ntmps114
 go_wp2_with fail
 go_loopw [13] (fun i wr=>i= .int .i64 0∧Below w.heap.size w wr∧BxNd wr w.heap.size (ndB s a b c) (.slice ac 0 cc) (.slice ae 0 ce)) (fun _ _=>0)
 case atStart=>exact ⟨rfl,HB.out _⟩
 case round=>
  obtain ⟨rfl,hb,⟨y0,y1,y2,y3,y4,y5⟩,y6⟩:=hrel;have HB1:Hid (Below w.heap.size w wr∧BxNd wr w.heap.size (ndB s a b c) (.slice ac 0 cc) (.slice ae 0 ce)):=⟨hb,⟨y0,y1,y2,y3,y4,y5⟩,y6⟩;clear hb HB
  go_wp2_with fail
  clear y0 y1 y2 y3 y4 y5 y6
  go_loopw [26] (fun i wr=>i= .int .i64 0∧Below w.heap.size w wr∧BxNd wr w.heap.size (ndB s a b c) (.slice ac 0 cc) (.slice ae 0 ce)) (fun _ _=>0)
  case atStart=>exact ⟨rfl,HB1.out⟩
  case round=>
   clear HB1;obtain ⟨rfl,hb,⟨y0,y1,y2,y3,y4,y5⟩,y6⟩:=hrel;have HB2:=aA hb;clear hb
   go_wp2_with (go_at_call 167;refine (HC.out _ _).mono ?_;rintro e w1 ⟨rfl,ok⟩)
   go_ret;exact ⟨rfl,aB HB2.out ok⟩
set_option maxHeartbeats 1600000 in
theorem pS {al ao:Option Addr} {cl co:Nat} {w:World}:
 Calls Tryz.prog 115 #[.slice ao 0 co,.slice al 0 cl] w fun e w'=>e= .returned (.bool true)∧Below w.heap.size w w':=by
 have hmm:= @run_makeMap Tryz.prog;have HB:=aA (aD w (.map #[] 0))
 go_enter Tryz.func115,Tryz.ntmps115
 go_wp2_with fail
 go_loopw [15] (fun i wr=>i= .int .i64 0∧Below w.heap.size w wr) (fun _ _=>0)
 case atStart=>exact ⟨rfl,HB.out⟩
 case round=>
  clear HB;obtain ⟨rfl,hb⟩:=hrel;have HB1:=aA hb;clear hb
  go_wp2_with fail
  go_loopw [27] (fun i wr=>i= .int .i64 0∧Below w.heap.size w wr) (fun _ _=>0)
  case atStart=>exact ⟨rfl,HB1.out⟩
  case round=>
   clear HB1;obtain ⟨rfl,hb⟩:=hrel;have HB2:=aA hb;clear hb
   go_wp2
   go_ret;exact ⟨rfl,HB2.out⟩
set_option maxHeartbeats 1600000 in
theorem gX {s:ByteArray} {a b c:Int} {ac ae al:Option Addr} {cc ce kl cl:Nat} {w:World}:
 Calls Tryz.prog 116 #[.agg #[.string s,.int .i64 a,.int .i64 b,.int .i64 c,.slice ac 0 cc,.slice ae 0 ce],.slice al kl cl] w fun e w'=>e= .returned (.bool true)∧Below w.heap.size w w':=by
 have HC:Hid (∀ w1 u,Calls Tryz.prog 169 #[.slice ac 0 cc,.func (.func 170) #[] #[u]] w1 fun e w'=>e= .returned (.bool false)∧Below w1.heap.size w1 w'):=fun w1 u=>tO (L:=[]) (p:=fun _=>true) (fL w1 ac cc) (by simp) (fun w2 _ x hx=>by cases hx)
 have HB:=aA (aT w (.cells #[.string s,.int .i64 a,.int .i64 b,.int .i64 c,.slice ac 0 cc,.slice ae 0 ce] 67) (.cells #[.slice al kl cl] 40))
 go_enter Tryz.func116,Tryz.ntmps116
 go_wp2_with (go_at_call 169;refine (HC.out _ _).mono ?_;rintro e w1 ⟨rfl,ok⟩)
 go_ret;exact ⟨rfl,aB HB.out ok⟩
def BxS (w:World) (N:Nat) (v:Value) (p:Option Addr):Prop:=(w.cell? ⟨N,0,none⟩=some v∧w.cell? ⟨N,1,none⟩=some (.pointer p)∧w.cell? ⟨N,2,none⟩=some (.slice none 0 0)∧w.cell? ⟨N,3,none⟩=some (.slice none 0 0)∧w.cell? ⟨N,4,none⟩=some (.slice none 0 0)∧w.cell? ⟨N,5,none⟩=some (.slice none 0 0)∧w.cell? ⟨N,6,none⟩=some (.bool true))∧N<w.heap.size
theorem cC (N:Nat) (v:Value) (p:Option Addr):KeepP fun w1=>BxS w1 N v p:=fun w w' h hb=>by
 obtain ⟨⟨h0,h1,h2,h3,h4,h5,h6⟩,hg⟩:=h;have q:∀ i,w'.cell? ⟨N,i,none⟩=w.cell? ⟨N,i,none⟩:=fun i=>hb.cell (p:=⟨N,i,none⟩) hg
 exact ⟨⟨by rw [q];exact h0,by rw [q];exact h1,by rw [q];exact h2,by rw [q];exact h3,by rw [q];exact h4,by rw [q];exact h5,by rw [q];exact h6⟩,Nat.lt_of_lt_of_le hg hb.size⟩
theorem BxS.new {w:World} {N:Nat} (hN:w.heap.size=N) (v:Value) (p:Option Addr):BxS (w.alloc (.cells #[v,.pointer p,.slice none 0 0,.slice none 0 0,.slice none 0 0,.slice none 0 0,.bool true] 109)) N v p:=by
 subst hN;refine ⟨⟨?_,?_,?_,?_,?_,?_,?_⟩,?_⟩<;>simp
set_option maxHeartbeats 1600000 in
theorem wB {s:ByteArray} {a b c:Int} {g o n cap:Nat} {p:Option Addr} {vc:Value} {ae:Option Addr} {ce:Nat} {w:World} (hx:NdIn w g o (ndB s a b c) vc (.slice ae 0 ce)) (hn:0<n):
 Calls Tryz.prog 113 #[.agg #[.slice (some ⟨g,o,none⟩) n cap,.pointer p,.slice none 0 0,.slice none 0 0,.slice none 0 0,.slice none 0 0,.bool true],.int .i64 0] w fun e w'=>e= .returned (.slice none 0 0)∧Below w.heap.size w w':=by
 have HB:Hid (Below w.heap.size w (w.alloc (.cells #[.slice (some ⟨g,o,none⟩) n cap,.pointer p,.slice none 0 0,.slice none 0 0,.slice none 0 0,.slice none 0 0,.bool true] 109))):=aD _ _;have HX:=aA (hx.below (aD w (.cells #[.slice (some ⟨g,o,none⟩) n cap,.pointer p,.slice none 0 0,.slice none 0 0,.slice none 0 0,.slice none 0 0,.bool true] 109)));obtain ⟨⟨x0,x1,x2,x3,x4,x5⟩,_,x6⟩:=HX.out;have hni:(0:Int)<(n:Int):=by omega
 clear hx HX
 go_enter Tryz.func113,Tryz.ntmps113
 go_wp2_with fail
 clear x0 x1 x2 x3 x4 x5 x6
 go_loopw [5,15] (fun v5 i wr=>v5= .slice none 0 0∧i= .int .i64 0∧Below w.heap.size w wr) (fun _ _ _=>0)
 case atStart=>exact ⟨rfl,rfl,HB.out⟩
 case round=>
  clear HB;obtain ⟨rfl,rfl,hb⟩:=hrel;have HB1:=aA hb;clear hb
  go_wp2
  go_ret;exact ⟨rfl,HB1.out⟩
end Go.Proofs.YtbhpfedjilkelaaGreatDoor
namespace Go.Proofs.YtbhpfedjilkelaaGreatDoor
open Go.RowKit
set_option maxRecDepth 100000
theorem kS:∀ {a b c:List UInt8},Op.bytesLess a b=true→Op.bytesLess b c=true→Op.bytesLess a c=true
 |_,[],_,h,_=>by cases ‹List UInt8› <;>simp [Op.bytesLess] at h
 |_,_::_,[],_,h=>by simp [Op.bytesLess] at h
 |[],_::_,_::_,_,_=>rfl
 |x::a,y::b,z::c,h1,h2=>by
  have e1:(decide (x<y)||(x==y&&Op.bytesLess a b))=true:=h1;have e2:(decide (y<z)||(y==z&&Op.bytesLess b c))=true:=h2;show (decide (x<z)||(x==z&&Op.bytesLess a c))=true;simp only [Bool.or_eq_true,decide_eq_true_eq,Bool.and_eq_true,beq_iff_eq] at e1 e2 ⊢
  rcases e1 with h|⟨rfl,h⟩
  · rcases e2 with k|⟨rfl,_⟩
    · exact Or.inl (UInt8.lt_trans h k)
    · exact Or.inl h
  · rcases e2 with k|⟨rfl,k⟩
    · exact Or.inl k
    · exact Or.inr ⟨rfl,kS h k⟩
end Go.Proofs.YtbhpfedjilkelaaGreatDoor
namespace Go.Proofs.YtbhpfedjilkelaaGreatDoor
open Go.RowKit Go.Maps Go.WideMaps
set_option maxRecDepth 100000
theorem kT:∀ (a b:List UInt8),Op.bytesLess a b=false→a≠b→Op.bytesLess b a=true
 |[],[],_,h=>absurd rfl h
 |[],_::_,h,_=>by cases h
 |_::_,[],_,_=>rfl
 |x::a,y::b,h,hn=>by
  have h':(decide (x<y)||(x==y&&Op.bytesLess a b))=false:=h;show (decide (y<x)||(y==x&&Op.bytesLess b a))=true;rw [Bool.or_eq_false_iff,decide_eq_false_iff_not] at h';obtain ⟨h1,h2⟩:=h';rw [Bool.or_eq_true,decide_eq_true_eq]
  by_cases e:x=y
  · subst e
    right
    rw [beq_self_eq_true,Bool.true_and] at h2 ⊢;exact kT a b h2 (fun q=>hn (by rw [q]))
  · left
    rcases UInt8.lt_or_lt_of_ne e with q|q
    · exact absurd q h1
    · exact q
theorem iA:∀ (a b:List UInt8),Op.bytesLess a b=bytesBefore a b
 |[],[]=>rfl
 |[],_::_=>rfl
 |_::_,[]=>rfl
 |x::a,y::b=>by
  show (decide (x<y)||(x==y&&Op.bytesLess a b))=(decide (x<y)||(x==y&&bytesBefore a b));rw [iA a b]
theorem mT (s t:ByteArray):ltS s t=bytesBefore s.data.toList t.data.toList:=by
 unfold ltS;rw [iA,ByteArray.toList_eq,ByteArray.toList_eq]
theorem pT {s t:ByteArray} (h:ltS s t=false) (hn:s≠t):ltS t s=true:=kT _ _ h (fun e=>hn (bG e))
theorem pU {s t u:ByteArray} (h:ltS s t=true) (h':ltS t u=true):ltS s u=true:=kS h h'
theorem Below.drewN {B:Nat} {w w':World} (h:Below B w w') (n:Nat):Below B w (w'.drewN n):=⟨h.os,h.tape,h.output,h.size,h.block⟩
theorem sD {w:World} {B:Nat} {e:TypeId} {z:Nat} {v:Value} {n:Nat} {xs:List Value} (h:w.ownsRow B e z v n xs) (hn:0<n):∃ g cap,B≤g∧g<w.heap.size∧v= .slice (some ⟨g,0,none⟩) n cap∧n≤cap∧∀ j u,xs[j]? =some u→w.cell? ⟨g,j,none⟩=some u:=by
 rcases h.2 with ⟨_,hn⟩|⟨g,cap,cur,rfl,hB,hgg,hc,_,_,ht⟩
 · omega
 · refine ⟨g,cap,hB,(Array.getElem?_eq_some_iff.1 hgg).1,rfl,hc,fun j u hj=> ?_⟩
   have e:=kQ hgg ht j u hj;have e2:(⟨g,0,none⟩:Addr).add j=⟨g,j,none⟩:=by unfold Addr.add;split<;>simp_all
   rw [e2] at e;exact e
def bT (p:Pn):List Value:=[.string p.nm,.int .i64 p.a,.int .i64 p.b,.int .i64 p.c]
def OwnPn (w:World) (B:Nat) (v:Value) (ps:List Pn):Prop:=w.ownsRow B 80 4 v ps.length (ps.flatMap bT)
theorem wC:(Tryz.prog.info? 80).map (fun i=>(i.zero,i.size,i.bytes))=some (some (.agg #[.string ⟨#[]⟩,.int .i64 0,.int .i64 0,.int .i64 0]),4,40):=by kernel_rfl
theorem OwnPn.nil (w:World) (B:Nat):OwnPn w B (.slice none 0 0) []:=⟨rfl,Or.inl ⟨rfl,rfl⟩⟩
end Go.Proofs.YtbhpfedjilkelaaGreatDoor
namespace Go.Proofs.YtbhpfedjilkelaaGreatDoor
open Go.Shelf Go.RowKit Go.Lib Go.Sort Go.Maps Go.WideMaps
set_option maxRecDepth 100000
def sE (x y:Pn):Int:=Lib.compareBytes x.nm.data.toList y.nm.data.toList
def ltP (x y:Pn):Bool:=bytesBefore x.nm.data.toList y.nm.data.toList
theorem wD (x y:Pn):ltOf sE x y=ltP x y:=by
 unfold ltOf sE ltP;rw [Bool.eq_iff_iff,decide_eq_true_iff];exact dZ _ _
end Go.Proofs.YtbhpfedjilkelaaGreatDoor
namespace Go.Proofs.YtbhpfedjilkelaaGreatDoor
open Go.RowKit Go.Maps Go.WideMaps
set_option maxRecDepth 100000
structure Wt where
 nm:ByteArray
 kd:Int
 ad:Option Addr
 ln:Nat
 cp:Nat
 tg:Nat
def cM (x:Wt):List Value:=[.string x.nm,.int .i64 x.kd,.slice x.ad x.ln x.cp]
theorem sF:(Tryz.prog.info? 161).map (fun i=>(i.zero,i.size,i.bytes))=some (some (.agg #[.string ⟨#[]⟩,.int .i64 0,.slice none 0 0]),3,48):=by kernel_rfl
def RowW (w:World) (B g n cap:Nat) (xs:List Wt):Prop:=xs.length=n∧w.ownsRow B 161 3 (.slice (some ⟨g,0,none⟩) n cap) n (xs.flatMap cM)
theorem nZ:∀ (l:List Wt) (i:Nat) (x:Wt),l[i]? =some x→(l.flatMap cM)[i*3]? =some (.string x.nm)∧(l.flatMap cM)[i*3+1]? =some (.int .i64 x.kd)∧(l.flatMap cM)[i*3+2]? =some (.slice x.ad x.ln x.cp)
 |[],i,x,h=>by simp at h
 |y::l,0,x,h=>by
  simp at h
  subst h;exact ⟨rfl,rfl,rfl⟩
 |y::l,i+1,x,h=>by
  obtain ⟨h0,h1,h2⟩:=nZ l i x (by simpa using h);rw [List.flatMap_cons];have e:∀ r,(i+1)*3+r=(cM y).length+(i*3+r):=fun r=>by show _=3+_;omega
  refine ⟨?_,?_,?_⟩
  · have e0:(i+1)*3=(cM y).length+i*3:=by show _=3+_;omega
    rw [e0,List.getElem?_append_right (Nat.le_add_right _ _),Nat.add_sub_cancel_left];exact h0
  · rw [e 1,List.getElem?_append_right (Nat.le_add_right _ _),Nat.add_sub_cancel_left]
    exact h1
  · rw [e 2,List.getElem?_append_right (Nat.le_add_right _ _),Nat.add_sub_cancel_left]
    exact h2
theorem kU:∀ (l:List Wt) (i:Nat) (y:Wt),i<l.length→((((l.flatMap cM).set (i*3) (.string y.nm)).set (i*3+1) (.int .i64 y.kd)).set (i*3+2) (.slice y.ad y.ln y.cp))=(l.set i y).flatMap cM
 |[],i,y,h=>by simp at h
 |x::l,0,y,_=>by
  rw [List.set_cons_zero,List.flatMap_cons,List.flatMap_cons];rfl
 |x::l,i+1,y,h=>by
  rw [List.set_cons_succ,List.flatMap_cons,List.flatMap_cons,←kU l i y (by simpa using h)];have e:∀ r,(i+1)*3+r=(cM x).length+(i*3+r):=fun r=>by show _=3+_;omega
  have e0:(i+1)*3=(cM x).length+i*3:=by show _=3+_;omega
  rw [e 2,e 1,e0];rw [List.set_append_right _ _ (Nat.le_add_right _ _),List.set_append_right _ _ (Nat.le_add_right _ _),List.set_append_right _ _ (Nat.le_add_right _ _)];simp only [Nat.add_sub_cancel_left]
theorem RowW.cells {w:World} {B g n cap:Nat} {xs:List Wt} (h:RowW w B g n cap xs) {i:Nat} {x:Wt} (hx:xs[i]? =some x):w.cell? ⟨g,i*3,none⟩=some (.string x.nm)∧w.cell? ⟨g,i*3+1,none⟩=some (.int .i64 x.kd)∧w.cell? ⟨g,i*3+2,none⟩=some (.slice x.ad x.ln x.cp):=by
 have hi:i<n:=by rw [←h.1];exact (List.getElem?_eq_some_iff.1 hx).1
 obtain ⟨h0,h1,h2⟩:=nZ xs i x hx;exact ⟨(World.ownsRow.cellAt h.2 _ (by omega)).trans h0,(World.ownsRow.cellAt h.2 _ (by omega)).trans h1,(World.ownsRow.cellAt h.2 _ (by omega)).trans h2⟩
theorem RowW.lt {w:World} {B g n cap:Nat} {xs:List Wt} (h:RowW w B g n cap xs):B≤g∧g<w.heap.size:=World.ownsRow.lt h.2 g rfl
theorem RowW.below {w w':World} {B g n cap:Nat} {xs:List Wt} (h:RowW w B g n cap xs) (hb:Below w.heap.size w w'):RowW w' B g n cap xs:=⟨h.1,cR h.2 hb⟩
theorem RowW.put {w:World} {B g n cap:Nat} {xs:List Wt} (h:RowW w B g n cap xs) {i:Nat} (hi:i<n) (y:Wt):RowW (((w.setCell ⟨g,i*3,none⟩ (.string y.nm)).setCell ⟨g,i*3+1,none⟩ (.int .i64 y.kd)).setCell ⟨g,i*3+2,none⟩ (.slice y.ad y.ln y.cp)) B g n cap (xs.set i y)∧w.grownBy (((w.setCell ⟨g,i*3,none⟩ (.string y.nm)).setCell ⟨g,i*3+1,none⟩ (.int .i64 y.kd)).setCell ⟨g,i*3+2,none⟩ (.slice y.ad y.ln y.cp)) (some g):=by
 obtain ⟨a1,b1⟩:=h.2.stored (i*3) (.string y.nm);obtain ⟨a2,b2⟩:=a1.stored (i*3+1) (.int .i64 y.kd);obtain ⟨a3,b3⟩:=a2.stored (i*3+2) (.slice y.ad y.ln y.cp);rw [kU xs i y (by rw [h.1];exact hi)] at a3;exact ⟨⟨by rw [List.length_set];exact h.1,a3⟩,(b1.trans b2).trans b3⟩
def SW (w0:World) (B g n cap:Nat) (xs:List Wt) (w:World):Prop:=RowW w B g n cap xs∧w0.grownBy w (some g)
theorem mU {w0 w w':World} {r:Option Nat} (h:w0.grownBy w r) (hb:Below w.heap.size w w'):w0.grownBy w' r:=⟨hb.os.trans h.os,hb.tape.trans h.tape,hb.output.trans h.output,Nat.le_trans h.size hb.size,fun k hk hn=>(hb.block k (Nat.lt_of_lt_of_le hk h.size)).trans (h.block k hk hn)⟩
theorem cN (w0:World) (B g n cap:Nat) (xs:List Wt):KeepP (SW w0 B g n cap xs):=fun _ _ h hb=>⟨h.1.below hb,mU h.2 hb⟩
theorem SW.put {w0 w:World} {B g n cap:Nat} {xs:List Wt} (h:SW w0 B g n cap xs w) {i j:Nat} {x y:Wt} (hi:i<n) (hj:j<n):SW w0 B g n cap ((xs.set i y).set j x) (((((((w.setCell ⟨g,i*3,none⟩ (.string y.nm)).setCell ⟨g,i*3+1,none⟩ (.int .i64 y.kd)).setCell ⟨g,i*3+2,none⟩ (.slice y.ad y.ln y.cp))).setCell ⟨g,j*3,none⟩ (.string x.nm)).setCell ⟨g,j*3+1,none⟩ (.int .i64 x.kd)).setCell ⟨g,j*3+2,none⟩ (.slice x.ad x.ln x.cp)):=by
 obtain ⟨a1,b1⟩:=h.1.put hi y;obtain ⟨a2,b2⟩:=a1.put hj x;exact ⟨a2,(h.2.trans b1).trans b2⟩
def ltT (x y:Wt):Prop:=ltS x.nm y.nm=true∨(x.nm=y.nm∧x.tg<y.tg)
theorem cU {x y z:Wt} (h:ltT x y) (h':ltT y z):ltT x z:=by
 rcases h with h|⟨h1,h2⟩
 · rcases h' with h'|⟨h3,_⟩
   · exact Or.inl (pU h h')
   · exact Or.inl (h3 ▸ h)
 · rcases h' with h'|⟨h3,h4⟩
   · exact Or.inl (h1 ▸ h')
   · exact Or.inr ⟨h1.trans h3,Nat.lt_trans h2 h4⟩
theorem fM {x y:Wt} (h:ltS x.nm y.nm=false) (ht:y.tg<x.tg):ltT y x:=by
 by_cases e:x.nm=y.nm
 · exact Or.inr ⟨e.symm,ht⟩
 · exact Or.inl (pT h e)
theorem cK {S1 S2:List Wt} {x:Wt} (h:(S1++S2).Pairwise ltT) (h2:∀ y ∈ S2,ltT x y) (h1:S1=[]∨∃ S0 y,S1=S0++[y]∧ltT y x):(S1++x::S2).Pairwise ltT:=by
 rw [List.pairwise_append] at h ⊢;refine ⟨h.1,List.pairwise_cons.2 ⟨h2,h.2.1⟩,fun a ha b hb=> ?_⟩
 rcases List.mem_cons.1 hb with rfl|hb
 · rcases h1 with rfl|⟨S0,y,rfl,hy⟩
   · cases ha
   · rcases List.mem_append.1 ha with ha|ha
     · exact cU ((List.pairwise_append.1 h.1).2.2 a ha y (by simp)) hy
     · rw [List.mem_singleton] at ha
       rw [ha];exact hy
 · exact h.2.2 a ha b hb
theorem iB {α:Type} (A B:List α) (x y:α):((A++y::x::B).set (A.length+1) y).set A.length x=A++x::y::B:=by
 rw [List.set_append_right _ _ (by omega),List.set_append_right _ _ (Nat.le_refl _)]
 simp
theorem dJ (x y:Wt):∃ r:Int,(r<0↔ltS x.nm y.nm=true)∧∀ W,Calls Tryz.prog 242 #[.agg #[.string x.nm,.int .i64 x.kd,.slice x.ad x.ln x.cp],.agg #[.string y.nm,.int .i64 y.kd,.slice y.ad y.ln y.cp]] W fun e w'=>e= .returned (.int .i64 r)∧Below W.heap.size W w':=by
 refine ⟨sE ⟨x.nm,0,0,0⟩ ⟨y.nm,0,0,0⟩,?_,fun W=> ?_⟩
 · have e:=wD ⟨x.nm,0,0,0⟩ ⟨y.nm,0,0,0⟩
   rw [show ltP ⟨x.nm,0,0,0⟩ ⟨y.nm,0,0,0⟩=ltS x.nm y.nm from (mT x.nm y.nm).symm] at e;unfold ltOf at e;rw [←e];exact (decide_eq_true_iff (p:=_<0)).symm
 · have HSC:Hid (∀ W,Calls Tryz.prog 105 #[.string x.nm,.string y.nm] W fun e w'=>e= .returned (.int .i64 (sE ⟨x.nm,0,0,0⟩ ⟨y.nm,0,0,0⟩))∧w'=W):=fun W=>Tryz.strings_Compare _ _ W
   generalize sE ⟨x.nm,0,0,0⟩ ⟨y.nm,0,0,0⟩=r at*
   go_enter Tryz.func242,Tryz.ntmps242
   go_wp2_with (go_at_call 105;refine (HSC.out _).mono ?_;rintro e w1 ⟨rfl,rfl⟩)
   go_ret;exact ⟨rfl,aT _ _ _⟩
end Go.Proofs.YtbhpfedjilkelaaGreatDoor
