/- Gv3, Bk1, RwGh, Fl1, Wa3, Gp1, Wa4, Wa5: their declarations that are needed, laid in one text, remarks and blanks left out. -/
import Derived.Deep.DeepHandedRow
import Derived.Deep.DeepWitnessRowRef
import Derived.Test.YtpfemjlhklnfoaaGreatDoorMg07
namespace Go.Proofs.YtpfemjlhklnfoaaGreatDoor
open Go.RowKit Go.Maps Go.WideMaps Go.Sort
set_option maxRecDepth 100000
def GrB (G:List Nd):Prop:=(G.length≤17592186044416∧wZ G≤4611686018427387000)∧∀ n ∈ G,SzN n
def StR (w:World) (v:Value) (q c:Nat) (S:List Nat) (tot:Nat) (wr:World):Prop:=
 (Below w.heap.size w wr∧BxG wr w.heap.size v)∧(CntI wr (w.heap.size+1) tot S tot∧OwnN wr (w.heap.size+1) (.slice (some ⟨q,0,none⟩) S.length c) S)∧q≠w.heap.size+1
theorem CntI.below {w w':World} {M n tot:Nat} {S:List Nat} (h:CntI w M n S tot) (hb:Below w.heap.size w w'):CntI w' M n S tot:=by
 obtain ⟨D,c,⟨es,cl,h1,r⟩,h2⟩:=h;have hM:=(Array.getElem?_eq_some_iff.1 h1).1;exact ⟨D,c,⟨es,cl,(hb.block M hM).trans h1,r⟩,h2⟩
theorem kW (w:World) (v:Value) (q c:Nat) (S:List Nat) (tot:Nat):KeepP (StR w v q c S tot):=fun _ _ h hb=>
 ⟨⟨aB h.1.1 hb,aW _ _ _ _ h.1.2 hb⟩,⟨h.2.1.1.below hb,h.2.1.2.below hb⟩,h.2.2⟩
theorem kX (g o:Nat) (n:Nd) (vc ve:Value):KeepP fun W=>NdIn W g o n vc ve:=fun _ _ h hb=>h.below hb
def gX (w:World) (G:List Nd) (e:Ending) (w':World):Prop:=∃ ad c,e= .returned (.slice ad (cP G).length c)∧OwnN w' w.heap.size (.slice ad (cP G).length c) (cP G)∧Below w.heap.size w w'
theorem OwnN.base {w:World} {B B':Nat} {v:Value} {l:List Nat} (h:OwnN w B v l) (hb:B'≤B):OwnN w B' v l:=⟨h.1,h.2.imp id fun ⟨g,cap,cur,e,hB,r⟩=>⟨g,cap,cur,e,Nat.le_trans hb hB,r⟩⟩
theorem StR.put {w:World} {v:Value} {q c tot:Nat} {S:List Nat} {wr w3:World} (h:StR w v q c S tot wr) (hc:CntI w3 (w.heap.size+1) (tot+1) S (tot+1)) (hg:wr.grownBy w3 (some (w.heap.size+1))):StR w v q c S (tot+1) w3:=
 ⟨⟨h.1.1.grown hg h.1.1.size (fun k hk=>by cases hk;omega),hg.cell h.1.2.1 (by simp),Nat.lt_of_lt_of_le h.1.2.2 hg.size⟩,⟨hc,h.2.1.2.kept hg (Or.inr (by simp [Value.ownBlock];exact h.2.2))⟩,h.2.2⟩
theorem StR.app {w:World} {v:Value} {q c tot t:Nat} {S:List Nat} {wr w1:World} {v1:Value} (h:StR w v q c S tot wr) (ho:w1.ownsRow (w.heap.size+1) 3 1 v1 (S.length+1) (gG S++[.int .i64 (t:Int)])) (hg:wr.grownBy w1 (some q)) (hat:v1.ownBlock=some q∨v1.ownBlock=some wr.heap.size):
 ∃ q2 c2,v1= .slice (some ⟨q2,0,none⟩) (S.length+1) c2∧(Below w.heap.size w w1∧BxG w1 w.heap.size v)∧(CntI w1 (w.heap.size+1) tot S tot∧OwnN w1 (w.heap.size+1) (.slice (some ⟨q2,0,none⟩) (S++[t]).length c2) (S++[t]))∧q2≠w.heap.size+1:=by
 have hq:=(World.ownsRow.lt h.2.1.2 q rfl).1
 have hM:w.heap.size+1<wr.heap.size:=by
  obtain ⟨D,c,h1,_⟩:=h.2.1.1;exact h1.lt
 have hq2:=h.2.2;obtain ⟨q2,c2,rfl,_⟩:=ho.form (by omega);refine ⟨q2,c2,rfl,⟨h.1.1.grown hg h.1.1.size (fun k hk=>by cases hk;omega),hg.cell h.1.2.1 (by simp;omega),Nat.lt_of_lt_of_le h.1.2.2 hg.size⟩,⟨h.2.1.1.kept hg (by simp;omega),?_⟩,?_⟩
 · unfold OwnN
   rw [gH,List.length_append];exact ho
 · rcases hat with e|e<;>simp [Value.ownBlock] at e<;>omega
theorem StR.up {w:World} {v:Value} {q2 c2 tot t:Nat} {S:List Nat} {w1:World} (h:(Below w.heap.size w w1∧BxG w1 w.heap.size v)∧(CntI w1 (w.heap.size+1) tot S tot∧OwnN w1 (w.heap.size+1) (.slice (some ⟨q2,0,none⟩) (S++[t]).length c2) (S++[t]))∧q2≠w.heap.size+1) (ht:t<4611686018427387904) (htot:tot<4611686018427387904):
 ∃ k:Nat,k≤tot∧(Instr.lookup 118 (.map (some (w.heap.size+1))) (.int .i64 (t:Int)) false).run Tryz.prog w1= .ok (.int .i64 (k:Int)) w1∧∃ w3,(Instr.mapUpdate 118 (.map (some (w.heap.size+1))) (.int .i64 (t:Int)) (.int .i64 ((k:Int)+1))).run Tryz.prog w1= .ok () w3∧StR w v q2 c2 (S++[t]) (tot+1) w3:=by
 obtain ⟨k,_,hk,hsp⟩:=h.2.1.1.step (t:=t) (S':=S++[t]) ht (by unfold maxLen;omega) (fun y=>by simp);obtain ⟨hl,w3,hu,hc3,hg3⟩:=hsp w1 none ⟨rfl,rfl,rfl,Nat.le_refl _,fun _ _ _=>rfl⟩ (by simp);refine ⟨k,hk,hl,w3,hu,⟨h.1.1.grown hg3 h.1.1.size (fun k hk=>by cases hk;omega),hg3.cell h.1.2.1 (by simp),Nat.lt_of_lt_of_le h.1.2.2 hg3.size⟩,⟨hc3,h.2.1.2.kept hg3 (Or.inr (by simp [Value.ownBlock];exact h.2.2))⟩,h.2.2⟩
theorem sL {v:Value} {w:World} (hG:NodesAt w v []):
 Calls Tryz.prog 32 #[.agg #[v]] w fun e w'=>gX w [] e w':=by
 obtain ⟨ad,cap,rfl,_⟩:=hG;have HQ:Hid (∀ w',Below w.heap.size w w'→gX w [] (.returned (.slice none 0 0)) w'):=fun w' hb=>⟨none,0,rfl,⟨rfl,Or.inl ⟨rfl,rfl⟩⟩,hb⟩
 go_enter Tryz.func32,Tryz.ntmps32
 go_wp2
 go_ret;exact HQ.out _ (aD _ _)
set_option maxHeartbeats 25600000 in
theorem pE {G:List Nd} {g o cap:Nat} {w:World} (hn:0<G.length) (hx:∀ i (h:i<G.length),∃ vc ve,NdIn w g (o+i*6) G[i] vc ve) (hB:GrB G):
 Calls Tryz.prog 32 #[.agg #[.slice (some ⟨g,o,none⟩) G.length cap]] w fun e w'=>gX w G e w':=by
 have HX:=aA hx;have HSZ:=aA hB.2;obtain ⟨⟨hb1,hb2⟩,_⟩:=hB;have HSE:=aA hb2;have HQ:Hid (∀ ad c w',OwnN w' (w.heap.size+1) (.slice ad (cP G).length c) (cP G)→Below w.heap.size w w'→gX w G (.returned (.slice ad (cP G).length c)) w'):=fun ad c w' h hb=>⟨ad,c,rfl,h.base (by omega),hb⟩
 have HSO:Hid (∀ wr q c S,OwnN wr (w.heap.size+1) (.slice (some ⟨q,0,none⟩) S.length c) S→RI G.length S→Calls Tryz.prog 72 #[.slice (some ⟨q,0,none⟩) S.length c] wr fun e w'=>e= .returned (.tuple #[])∧(OwnN w' (w.heap.size+1) (.slice (some ⟨q,0,none⟩) S.length c) ((List.range G.length).filter fun i=>decide (i ∈ S))∧((List.range G.length).filter fun i=>decide (i ∈ S)).length=S.length)∧wr.grownBy w' (some q)):=fun wr q c S h1 h2=>AC h1 h2 (by omega)
 have hmm:= @run_makeMap Tryz.prog
 have h0:((w.alloc (.cells #[.slice (some ⟨g,o,none⟩) G.length cap] 55)).alloc (.map #[] 0)).ownsMap Tryz.prog 3 gQ (w.heap.size+1) 0 (.map []):=by
  have e:=World.ownsMap_made (H:=Value) (w.alloc (.cells #[.slice (some ⟨g,o,none⟩) G.length cap] 55)) Tryz.prog 3 gQ
  simpa using e
 obtain ⟨W2,hup,hc2,hg2⟩:=CntI.one h0;have HB1:Hid (Below w.heap.size w ((w.alloc (.cells #[.slice (some ⟨g,o,none⟩) G.length cap] 55)).alloc (.map #[] 0))∧BxG ((w.alloc (.cells #[.slice (some ⟨g,o,none⟩) G.length cap] 55)).alloc (.map #[] 0)) w.heap.size (.slice (some ⟨g,o,none⟩) G.length cap)):=⟨aM _ _ _,aW _ _ _ _ (BxG.new rfl _) (aD _ _)⟩
 have HST0:Hid (StR w (.slice (some ⟨g,o,none⟩) G.length cap) W2.heap.size 1 [0] 1 (W2.alloc (.cells #[.int .i64 0] 3))):=by
  have hs:w.heap.size+2≤W2.heap.size:=by have:=hg2.size;simpa using this
  have hbb:=aD W2 (.cells #[.int .i64 0] 3);have b1:Below w.heap.size w W2:=HB1.out.1.grown hg2 HB1.out.1.size (fun k hk=>by cases hk;omega);have b2:BxG W2 w.heap.size (.slice (some ⟨g,o,none⟩) G.length cap):=⟨hg2.cell HB1.out.2.1 (by simp),Nat.lt_of_lt_of_le HB1.out.2.2 hg2.size⟩;refine ⟨⟨aB b1 hbb,aW _ _ _ _ b2 hbb⟩,⟨hc2.below hbb,⟨rfl,Or.inr ⟨W2.heap.size,1,#[.int .i64 0],rfl,by omega,heap_alloc_new _ _,Nat.le_refl _,by unfold maxLen;omega,rfl,rfl⟩⟩⟩,by omega⟩
 have hn0:((G.length:Int)==0)=false:=by rw [beq_eq_false_iff_ne];omega
 clear hx hc2 hg2 h0 HB1 hb2
 go_enter Tryz.func32,Tryz.ntmps32
 go_wp2_with fail
 clear hup
 go_loopw [4,5] (fun v4 v5 wr=>∃ (i q c tot:Nat) (S:List Nat),v4= .slice (some ⟨q,0,none⟩) S.length c∧v5= .int .i64 (i:Nat)∧RJ G i S∧tot≤1+jN G (S.take i)∧StR w (.slice (some ⟨g,o,none⟩) G.length cap) q c S tot wr) (fun _ v5 _=>G.length+1 - (intOf v5).toNat)
 case atStart=>exact ⟨0,W2.heap.size,1,1,[0],rfl,rfl,RJ.one hn,by simp [jN],HST0.out⟩
 case round=>
  clear HST0;obtain ⟨i,q,c,tot,S,rfl,rfl,hrj,htot,hst⟩:=hrel;have HRJ:=aA hrj;have HST:=aA hst;have HTOT:=aA htot;have hSl:=hrj.ri.len
  by_cases hlt:i<S.length
  · have hqn:=hrj.ri.lt _ (List.getElem_mem hlt)
    obtain ⟨vc,ve,hndw⟩:=HX.out S[i] hqn;have hnd:=hndw.below hst.1.1;have hin:=OwnN.at hst.2.1.2 hlt;have HED:Hid (edA G S[i]=G[S[i]].ed):=oM hqn;have hle:=(HSZ.out _ (List.getElem_mem hqn)).2;have HNX:Hid (∀ S',fK G.length S (edA G S[i])=S'→RI G.length S'→i+1≤S'.length→RJ G (i+1) S'):=fun S' h1 h2 h3=>HRJ.out.next hlt h1 h2 h3
    have HDG:Hid (jN G (S.take (i+1))=jN G (S.take i)+(edA G S[i]).length∧jN G (S.take (i+1))≤wZ G):=⟨rW hlt,HRJ.out.ri.deg (i+1)⟩;rw [HED.out] at HNX HDG;generalize hr:S[i]=r at*;have hqi:(r:Int)<G.length:=by omega
    have hq0:(0:Int)≤r:=by omega
    obtain ⟨ae,ce,rfl⟩:=hnd.2.1.2.sl;obtain ⟨ac,cc,rfl⟩:=hnd.2.1.1.sl;generalize G[r]=x at*;have HEA:Hid (∀ w1,Below w.heap.size w w1→EdgesAt w1 (.slice ae x.ed.length ce) x.ed):=fun w1 h1=>hndw.2.1.2.below h1
    have HK:Hid (KeepP fun w1=>StR w (.slice (some ⟨g,o,none⟩) G.length cap) q c S tot w1∧NdIn w1 g (o+r*6) x (.slice ac x.cx.length cc) (.slice ae x.ed.length ce)∧InN w1 q i (r:Int)):=(kW _ _ _ _ _ _).and ((kX _ _ _ _ _).and (qO _ _ _));have HO:Hid (StR w (.slice (some ⟨g,o,none⟩) G.length cap) q c S tot wr∧NdIn wr g (o+r*6) x (.slice ac x.cx.length cc) (.slice ae x.ed.length ce)∧InN wr q i (r:Int)):=⟨hst,hnd,hin⟩;have hil:(i:Int)<S.length:=by omega
    have hi0:(0:Int)≤i:=by omega
    have hSc:S.length≤c:=by
     rcases hst.2.1.2.2 with ⟨e,_⟩|⟨g',cap',cur,hv,_,_,h1,_⟩
     · cases e
     · cases hv;exact h1
    clear hrj hst htot hnd hndw hin HED
    go_wp2_with fail
    refine aX HK (by kernel_rfl) (by kernel_rfl) (by first|exact HO.out|exact HK.out.drew HO.out) ?_;intro C HIN HOUT;clear HO
    repeat
     (with_reducible refine wpQuiet_step (fun K hK=> ?_)
      go_simp
      first
       |(refine hK _ ?_;clear hK K)
       |(apply Exists.intro;refine ⟨fun w1 hC=> ?_,hK _ ?_⟩;(focus ((first|(exact rfl)|(obtain ⟨⟨⟨hbw,y0,y1⟩,_,hqm⟩,⟨⟨x0,x1,x2,x3,x4,x5⟩,_,x6⟩,k0,k1⟩:=HOUT.out w1 hC;clear hC;go_simp;first|done|exact rfl));done));clear hK K))
    refine wpQuiet_nil ?_;intro wn hC;have HO:=aA (HOUT.out _ hC);clear hC HIN HOUT C;obtain ⟨⟨⟨hbw,y0,y1⟩,_,hqm⟩,⟨⟨x0,x1,x2,x3,x4,x5⟩,_,x6⟩,k0,k1⟩:=HO.out;have HST2:=aA HO.out.1;clear HO HK HST x0 x1 x2 x3 x4 x5 x6 k0 k1 y0 y1 hqm hbw;generalize hlx:x.ed.length=le at*;have HLX:=aA hlx;clear hlx
    go_wp2_with fail
    go_loopw [4,31] (fun v4 vj wq=>∃ (j q' c' tot':Nat) (S':List Nat),v4= .slice (some ⟨q',0,none⟩) S'.length c'∧vj= .int .i64 (j:Nat)∧j≤le∧(RI G.length S'∧S<+:S'∧fK G.length S' (x.ed.drop j)=fK G.length S x.ed)∧tot'≤tot+j∧StR w (.slice (some ⟨g,o,none⟩) G.length cap) q' c' S' tot' wq) (fun _ vj _=>le - (intOf vj).toNat)
    case atStart=>exact ⟨0,q,c,tot,S,rfl,rfl,Nat.zero_le _,⟨HRJ.out.ri,List.prefix_refl _,rfl⟩,Nat.le_refl _,HST2.out⟩
    case round=>
     clear HST2;obtain ⟨j,q',c',tot',S',rfl,rfl,hj,⟨hri,hpre,hvis⟩,htot',hst'⟩:=hrel;have HST:=aA hst';have HRI:=aA hri;have HPRE:=aA hpre;have HVIS:=aA hvis;have hea:=HEA.out wr hst'.1.1;have hS'l:=hri.len
     by_cases hjl:j<le
     · have hjx:j<x.ed.length:=by have:=HLX.out;omega
       obtain ⟨gp,op,rfl,hcp,hei⟩:∃ gp op,ae=some ⟨gp,op,none⟩∧le≤ce∧EgIn wr gp (op+j*2) x.ed[j]:=by
        obtain ⟨a1,c1,hv,hc,hl⟩:=hea;cases hv
        rcases hl with h|⟨g,o,rfl,_,hs⟩
        · rw [h] at hjx;cases hjx
        · exact ⟨g,o,rfl,by have:=HLX.out;omega,hs j hjx⟩
       have HVS:Hid (fK G.length (gW G.length S' x.ed[j].to) (x.ed.drop (j+1))=fK G.length S x.ed):=by
        unfold Hid;rw [←jV hjx];exact hvis
       have htm:tot'<4611686018427387900:=by
        have h1:=HDG.out;have h2:=HTOT.out;have h3:=HSE.out;have h4:=HLX.out;omega
       generalize x.ed[j]=ee at*;obtain ⟨elb,eto⟩:=ee
       simp only at HVS
       have HAW:Hid (StR w (.slice (some ⟨g,o,none⟩) G.length cap) q' c' S' tot' (wr.alloc (.cells #[.string elb,.int .i64 eto] 77))):=kW _ _ _ _ _ _ _ _ hst' (aD _ _);obtain ⟨⟨e0,e1⟩,e6⟩:=hei
       simp only at e0 e1
       have y0:=HAW.out.1.2.1;have z1:(wr.alloc (.cells #[.string elb,.int .i64 eto] 77)).cell? ⟨wr.heap.size,1,none⟩=some (.int .i64 eto):=by simp
       clear hst' hea hri hpre hvis
       by_cases hr0:0≤eto∧eto<(G.length:Int)
       · obtain ⟨t,rfl⟩:=Int.eq_ofNat_of_zero_le hr0.1
         have htn:t<G.length:=by omega
         have hd1:decide ((t:Int)<0)=false:=decide_eq_false (by omega);have hd3:decide ((G.length:Int)≤(t:Int))=false:=decide_eq_false (by omega)
         by_cases hts:t ∈ S'
         · rw [uS hts] at HVS
           obtain ⟨k,hk0,hkt,hsp⟩:=HAW.out.2.1.1.step (t:=t) (S':=S') (by omega) (by unfold maxLen;omega) (fun y=>⟨Or.inl,fun h=>h.elim id fun h=>h ▸ hts⟩);obtain ⟨hl,w3,hu,hc3,hg3⟩:=hsp _ none ⟨rfl,rfl,rfl,Nat.le_refl _,fun _ _ _=>rfl⟩ (by simp);have hkp:=hk0.2 hts;have hk1:((k:Int)==0)=false:=by simp;omega
           have hkm:k≤4611686018427387900:=by omega
           have HR:Hid (StR w (.slice (some ⟨g,o,none⟩) G.length cap) q' c' S' (tot'+1) w3):=HAW.out.put hc3 hg3;clear hk0 hsp hc3 hg3
           go_wp2_with fail
           exact ⟨⟨j+1,q',c',tot'+1,S',rfl,by go_num,by omega,⟨HRI.out,HPRE.out,HVS.out⟩,by omega,HR.out⟩,by simp [intOf];omega⟩
         · rw [mE htn hts] at HVS
           have hri2:=HRI.out.snoc htn hts;have HRI2:=aA hri2;have hl2:=hri2.len;rw [List.length_append,List.length_singleton] at hl2;obtain ⟨k,hk0,hkt,hsp⟩:=HAW.out.2.1.1.step (t:=t) (S':=S'++[t]) (by omega) (by unfold maxLen;omega) (fun y=>by simp);obtain ⟨hl,_⟩:=hsp _ none ⟨rfl,rfl,rfl,Nat.le_refl _,fun _ _ _=>rfl⟩ (by simp)
           obtain rfl:k=0:=by
            rcases Nat.eq_zero_or_pos k with h|h
            · exact h
            · exact absurd (hk0.1 h) hts
           clear hk0 hsp hri2;have hq'm:=HAW.out.2.2;have hq'l:=(World.ownsRow.lt HST.out.2.1.2 q' rfl).2
           have HCE:Hid (∀ j u,[Value.int .i64 (t:Int)][j]? =some u→((wr.alloc (.cells #[.string elb,.int .i64 (t:Int)] 77)).alloc (.cells #[.int .i64 (t:Int)] 3)).cell? ((⟨wr.heap.size+1,0,none⟩:Addr).add j)=some u):=fun j u hju=>by
            cases j with
            |zero=>simp at hju;subst hju;simp [Addr.add]
            |succ j=>simp at hju
           have HAP:Hid (World.ownsRow ((wr.alloc (.cells #[.string elb,.int .i64 (t:Int)] 77)).alloc (.cells #[.int .i64 (t:Int)] 3)) (w.heap.size+1) 3 1 (.slice (some ⟨q',0,none⟩) S'.length c') S'.length (gG S')):=HAW.out.2.1.2.below (aD _ _);have HAW2:Hid (StR w (.slice (some ⟨g,o,none⟩) G.length cap) q' c' S' tot' ((wr.alloc (.cells #[.string elb,.int .i64 (t:Int)] 77)).alloc (.cells #[.int .i64 (t:Int)] 3))):=kW _ _ _ _ _ _ _ _ HAW.out (aD _ _)
           have hszz:w.heap.size+1≤((wr.alloc (.cells #[.string elb,.int .i64 (t:Int)] 77)).alloc (.cells #[.int .i64 (t:Int)] 3)).heap.size:=by
            have:=HAW2.out.1.2.2
            omega
           have z2:((wr.alloc (.cells #[.string elb,.int .i64 (t:Int)] 77)).alloc (.cells #[.int .i64 (t:Int)] 3)).cell? ⟨wr.heap.size,1,none⟩=some (.int .i64 (t:Int)):=by simp
           have HAPP:Hid (∀ v1 w1,World.ownsRow w1 (w.heap.size+1) 3 1 v1 (S'.length+1) (gG S'++[.int .i64 (t:Int)])→((wr.alloc (.cells #[.string elb,.int .i64 (t:Int)] 77)).alloc (.cells #[.int .i64 (t:Int)] 3)).grownBy w1 (some q')→(v1.ownBlock=some q'∨v1.ownBlock=some ((wr.alloc (.cells #[.string elb,.int .i64 (t:Int)] 77)).alloc (.cells #[.int .i64 (t:Int)] 3)).heap.size)→
            ∃ (q2 c2 k2:Nat) (w3:World),v1= .slice (some ⟨q2,0,none⟩) (S'.length+1) c2∧k2≤4611686018427387900∧w1.cell? ⟨w.heap.size,0,none⟩=some (.slice (some ⟨g,o,none⟩) G.length cap)∧w1.cell? ⟨wr.heap.size,1,none⟩=some (.int .i64 (t:Int))∧(Instr.lookup 118 (.map (some (w.heap.size+1))) (.int .i64 (t:Int)) false).run Tryz.prog w1= .ok (.int .i64 (k2:Int)) w1∧(Instr.mapUpdate 118 (.map (some (w.heap.size+1))) (.int .i64 (t:Int)) (.int .i64 ((k2:Int)+1))).run Tryz.prog w1= .ok () w3∧StR w (.slice (some ⟨g,o,none⟩) G.length cap) q2 c2 (S'++[t]) (tot'+1) w3):=fun v1 w1 ho hgr hat=>by
            obtain ⟨q2,c2,rfl,hap⟩:=HAW2.out.app ho hgr hat;obtain ⟨k2,hk2,hl2',w3,hu,hst3⟩:=StR.up hap (by omega) (by omega);exact ⟨q2,c2,k2,w3,rfl,by omega,hap.1.2.1,hgr.cell z2 (by simp;omega),hl2',hu,hst3⟩
           go_wp2_with (at_builtin;refine eL (B:=w.heap.size+1) (n:=S'.length) (m:=1) (news:=[.int .i64 (t:Int)]) iT Tryz.underlying70 rfl (by decide) rfl _ _ rfl rfl HAP.out hszz rfl rfl HCE.out (fun u hu=>by rw [List.mem_singleton.1 hu];rfl) (by omega) (by omega) ?_;intro v1 w1 ho hgr hat;obtain ⟨q2,c2,k2,w3,rfl,hkm,y2,z3,hl2,hu,hst3⟩:=HAPP.out v1 w1 ho hgr hat;have HR:=aA hst3;clear ho hgr hat hst3)
           exact ⟨⟨j+1,q2,c2,tot'+1,S'++[t],by rw [List.length_append];rfl,by go_num,by omega,⟨HRI2.out,HPRE.out.trans (List.prefix_append _ _),HVS.out⟩,by omega,HR.out⟩,by simp [intOf];omega⟩
       · have hvo:=mD (n:=G.length) (S:=S') hr0
         rw [hvo] at HVS
         by_cases hneg:eto<0
         · have hd1:decide (eto<0)=true:=decide_eq_true hneg
           clear hvo hr0
           go_wp2_with fail
           exact ⟨⟨j+1,q',c',tot',S',rfl,by go_num,by omega,⟨HRI.out,HPRE.out,HVS.out⟩,by omega,HAW.out⟩,by simp [intOf];omega⟩
         · have hd1:decide (eto<0)=false:=decide_eq_false hneg
           have hd3:decide ((G.length:Int)≤eto)=true:=decide_eq_true (by omega);clear hvo hr0 hneg
           go_wp2_with fail
           exact ⟨⟨j+1,q',c',tot',S',rfl,by go_num,by omega,⟨HRI.out,HPRE.out,HVS.out⟩,by omega,HAW.out⟩,by simp [intOf];omega⟩
     · have hje:j=le:=by omega
       subst hje
       have HRN:Hid (RJ G (i+1) S'∧tot'≤1+jN G (S'.take (i+1))):=by
        have e0:x.ed.drop j=[]:=by rw [←HLX.out,List.drop_length]
        have e1:=HVIS.out;rw [e0] at e1;have hl:=HPRE.out.length_le
        have htk:S'.take (i+1)=S.take (i+1):=by
         obtain ⟨r,hr⟩:=HPRE.out;rw [←hr,List.take_append_of_le_length (by omega)]
        refine ⟨HNX.out _ e1.symm HRI.out (by omega),?_⟩;rw [htk];have h1:=HDG.out;have h2:=HTOT.out;have h4:=HLX.out;omega
       clear hri hpre hvis hea htot' hst'
       go_wp2
       exact ⟨⟨i+1,q',c',tot',S',rfl,by go_num,HRN.out.1,HRN.out.2,HST.out⟩,by simp [intOf];omega⟩
  · have hie:i=S.length:=by have:=hrj.le;omega
    subst hie;have hdone:=hrj.done;have HLS:=aA (HSO.out _ _ _ _ hst.2.1.2 hrj.ri)
    have HRL:Hid (cP G=(List.range G.length).filter fun i=>decide (i ∈ S)):=by
     unfold Hid cP;rw [if_neg (by omega),←hdone]
    have hq1:=(World.ownsRow.lt hst.2.1.2 q rfl).1;clear hrj hst htot hdone
    go_wp2_with (go_at_call 72;refine HLS.out.mono ?_;rintro e w1 ⟨rfl,⟨ho,hlen⟩,hgr⟩;have HF:Hid (gX w G (.returned (.slice (some ⟨q,0,none⟩) S.length c)) w1):=(by
     have b1:Below w.heap.size w w1:=HST.out.1.1.grown hgr HST.out.1.1.size (fun k hk=>by cases hk;omega);have q1:=HQ.out (some ⟨q,0,none⟩) c w1;rw [HRL.out,hlen] at q1;exact q1 ho b1);clear ho hlen hgr)
    go_ret;exact HF.out
theorem gI {G:List Nd} {v:Value} {w:World} (hG:NodesAt w v G) (hB:GrB G):
 Calls Tryz.prog 32 #[.agg #[v]] w fun e w'=>gX w G e w':=by
 cases G with
 |nil=>exact sL hG
 |cons n r=>
  obtain ⟨ad,cap,rfl,hcap,hl⟩:=hG
  rcases hl with h|⟨g,o,rfl,hg,hs⟩
  · cases h
  · exact pE (by simp) hs hB
end Go.Proofs.YtpfemjlhklnfoaaGreatDoor
namespace Go.Proofs.YtpfemjlhklnfoaaGreatDoor
open Go.ChangeShapes Go.WideShapes Go.ChangeAt Go.RowKit Go.ChangeMaps
set_option maxRecDepth 100000
theorem vC {H:Type} (d:DataW H):1≤Rows.uptoBulk d:=by
 cases d with
 |lit l=>cases l<;>simp [Rows.uptoBulk]
 |_=>simp [Rows.uptoBulk]
theorem fP {H:Type}:∀ l:List (DataW H),l.length≤Rows.uptoBulkAll l
 |[]=>by simp [Rows.uptoBulkAll]
 |d::r=>by
  have h1:=vC d;have h2:=fP r;simp only [Rows.uptoBulkAll,List.length_cons];omega
theorem pF {H:Type} {enc:TypeId×Value→H} {W:World} {base:Nat} {held:Bool} {t e:TypeId} (ht:Tryz.prog.underlying t=some (.slice e)) {ad:Option Addr} {len cap:Nat} {d:DataW H} {p:List MemPlace} (h:DataW.Trod enc Tryz.prog W base (fun _=>true) held t (.slice ad len cap) d p):len≤Rows.uptoBulk d:=by
 obtain ⟨fuel,hf⟩:=h;have hf':DataW.trod enc Tryz.prog W base (fun _=>true) held fuel t [.slice ad len cap]=some (d,p):=by simpa [Value.cells] using hf
 rcases Go.Deep.open_slice ht hf' with ⟨hcs,_⟩|⟨a,l,c,m,n,D,Pl,hcs,_,hl,_,hm,hx,_⟩
 · simp only [List.cons.injEq,Value.slice.injEq,and_true] at hcs
   omega
 · simp only [List.cons.injEq,Value.slice.injEq,and_true] at hcs
   obtain ⟨rfl,rfl,rfl⟩:=hcs;injection hx with hx1 _
   subst hx1;have h1:=fP ((List.range len).map D);have h2:=fP ((List.range (m - len)).map fun j=>D (len+j));rw [List.length_map,List.length_range] at h1;simp only [Rows.uptoBulk];omega
end Go.Proofs.YtpfemjlhklnfoaaGreatDoor
namespace Go.Proofs.YtpfemjlhklnfoaaGreatDoor.Rg
open Go.ChangeShapes Go.WideShapes Go.ChangeAt Go.RowKit Go.ChangeMaps
set_option maxRecDepth 100000
theorem iU {H:Type}:∀ {l:List (DataW H)} {d:DataW H},d ∈ l→Rows.uptoBulk d≤Rows.uptoBulkAll l
 |[],d,h=>by cases h
 |e::l,d,h=>by
  simp only [Rows.uptoBulkAll]
  rcases List.mem_cons.1 h with rfl|h
  · omega
  · have:=iU h
    omega
theorem gJ {H:Type} {parts:List (DataW H)} {i:Nat} {d:DataW H} (h:parts[i]? =some d):Rows.uptoBulk d≤Rows.uptoBulk (.agg parts):=by
 have:=iU (List.mem_of_getElem? h)
 simp only [Rows.uptoBulk];omega
theorem sM {H:Type} {el sp:List (DataW H)} {d:DataW H} (h:d ∈ el):Rows.uptoBulk d≤Rows.uptoBulk (.slice el sp):=by
 have:=iU h
 simp only [Rows.uptoBulk];omega
def NdB (n:Nat) (d:Nd):Prop:=d.nm.size≤n∧d.ed.length≤n
theorem pG {H:Type} {enc:TypeId×Value→H} {W:World} {base:Nat} {held:Bool} {n:Nat} {g o:Nat} {cs:List Value} {x:DataW H×List MemPlace} (hc:W.cells? base ⟨g,o,none⟩ 6=some cs) (h:DataW.trod enc Tryz.prog W base (fun _=>true) held n 67 cs=some x):∃ d:Nd,(∃ vc ve,NdIn W g o d vc ve)∧NdZ d∧NdB (Rows.uptoBulk x.1) d:=by
 have hs:Tryz.prog.underlying 67=some (.struct (Tryz.prog.fieldsOf 67)):=by kernel_rfl
 obtain ⟨xs,n',_,hxx,_,hxl,hf⟩:=DataW.trod_struct hs h;have hsz:(Tryz.prog.fieldsOf 67).size=4:=by kernel_rfl
 obtain ⟨_,hcl,hq⟩:=World.cells?_some hc;obtain ⟨f0,i0,t0,o0⟩:=bB (fs:=Tryz.prog.fieldsOf 67) (i:=0) (ty:=9) (off:=0) (by kernel_rfl);obtain ⟨f1,i1,t1,o1⟩:=bB (fs:=Tryz.prog.fieldsOf 67) (i:=1) (ty:=31) (off:=1) (by kernel_rfl);obtain ⟨f2,i2,t2,o2⟩:=bB (fs:=Tryz.prog.fieldsOf 67) (i:=2) (ty:=40) (off:=4) (by kernel_rfl);obtain ⟨f3,i3,t3,o3⟩:=bB (fs:=Tryz.prog.fieldsOf 67) (i:=3) (ty:=65) (off:=5) (by kernel_rfl);have r0:=hf 0 f0 i0;have r1:=hf 1 f1 i1;have r2:=hf 2 f2 i2;have r3:=hf 3 f3 i3;rw [t0,o0,eJ,List.getElem?_eq_getElem (by omega:0<xs.length)] at r0;rw [t1,o1,iF,List.getElem?_eq_getElem (by omega:1<xs.length)] at r1;rw [t2,o2,jT,List.getElem?_eq_getElem (by omega:2<xs.length)] at r2;rw [t3,o3,iJ,List.getElem?_eq_getElem (by omega:3<xs.length)] at r3;obtain ⟨s,e0,hx0,hs0⟩:=DataW.trod_string Tryz.underlying9 r0;obtain ⟨a,b,c,ea,eb,ec,_⟩:=fF r1;obtain ⟨vc,L1,e2,h2,z2,m2⟩:=qL r2
 obtain ⟨ve,L2,e3,h3,z3,m3⟩:=lX r3
 have b0:Rows.uptoBulk xs[0].1≤Rows.uptoBulk x.1:=by
  rw [hxx];exact gJ (i:=0) (by rw [List.getElem?_map,List.getElem?_eq_getElem (by omega:0<xs.length)];rfl)
 have b3:Rows.uptoBulk xs[3].1≤Rows.uptoBulk x.1:=by
  rw [hxx];exact gJ (i:=3) (by rw [List.getElem?_map,List.getElem?_eq_getElem (by omega:3<xs.length)];rfl)
 have b4:s.size≤Rows.uptoBulk xs[0].1:=by
  rw [hx0];simp only [Rows.uptoBulk];show s.data.size≤_;rw [Array.length_toList];omega
 have b5:L2.length≤Rows.uptoBulk xs[3].1:=by
  obtain ⟨ad,cap,rfl,_⟩:=h3;rw [e3] at r3;exact pF (d:=xs[3].1) (p:=xs[3].2) Tryz.underlying65 ⟨n',by simpa [Value.cells] using r3⟩
 have ka:((cs.drop 1).take 3)[0]? =some (.int .i64 a):=ea;have kb:((cs.drop 1).take 3)[1]? =some (.int .i64 b):=eb;have kc:((cs.drop 1).take 3)[2]? =some (.int .i64 c):=ec;have q0:=hq 0 (by decide);have q1:=hq 1 (by decide);have q2:=hq 2 (by decide);have q3:=hq 3 (by decide);have q4:=hq 4 (by decide);have q5:=hq 5 (by decide);have ad:∀ i,(⟨g,o,none⟩:Addr).add i=⟨g,o+i,none⟩:=fun i=>by unfold Addr.add;split<;>simp_all
 simp at ka kb kc
 rw [ad,eS e0] at q0;rw [ad,ka] at q1;rw [ad,kb] at q2;rw [ad,kc] at q3;rw [ad,eS e2] at q4;rw [ad,eS e3] at q5;exact ⟨⟨s,a,b,c,L1,L2⟩,⟨vc,ve,⟨q0,q1,q2,q3,q4,q5⟩,⟨h2,h3⟩,cU q0⟩,⟨by unfold maxLen at hs0;exact hs0,⟨z2,m2⟩,z3,m3⟩,Nat.le_trans b4 b0,Nat.le_trans b5 b3⟩
theorem sN {H:Type} {enc:TypeId×Value→H} {W:World} {base fuel:Nat} {held:Bool} {cs:List Value} {x:DataW H×List MemPlace} (h:DataW.trod enc Tryz.prog W base (fun _=>true) held fuel 53 cs=some x):
 ∃ v L,cs=[v]∧NodesAt W v L∧L.length≤9223372036854775807∧L.length≤Rows.uptoBulk x.1∧∀ d ∈ L,NdZ d∧NdB (Rows.uptoBulk x.1) d:=by
 rcases Go.Deep.open_slice Tryz.underlying53 h with ⟨rfl,_⟩|⟨ad,len,cap,m,n,D,Pl,rfl,_,hl,hcm,hm,hx,hel⟩
 · exact ⟨_,[],rfl,⟨none,0,rfl,Nat.le_refl _,Or.inl rfl⟩,by simp,Nat.zero_le _,(fun d hd=>by cases hd)⟩
 · have hz:len≤9223372036854775807:=by unfold maxLen at hcm;omega
   rcases Nat.eq_zero_or_pos len with h0|h0
   · subst h0
     exact ⟨_,[],rfl,⟨_,_,rfl,Nat.zero_le _,Or.inl rfl⟩,by simp,Nat.zero_le _,(fun d hd=>by cases hd)⟩
   · have hmm:len≤m:=by rw [hm];simp;exact hl
     rw [jS] at hel;obtain ⟨g,off,spot⟩:=ad;obtain ⟨cs0,hc0,_⟩:=hel 0 (by omega);obtain ⟨_,hln,hq⟩:=World.cells?_some hc0;have hcell:=hq 0 (by decide);rw [List.getElem?_eq_getElem (by omega:0<cs0.length)] at hcell;have hspot:spot=none:=by simpa [Addr.add] using World.cell?_spot hcell
     subst hspot;have ad2:∀ o i,(⟨g,o,none⟩:Addr).add i=⟨g,o+i,none⟩:=fun o i=>by unfold Addr.add;split<;>simp_all
     have hxi:x.1= .slice ((List.range len).map D) ((List.range (m - len)).map fun j=>D (len+j)):=by rw [hx]
     obtain ⟨L,hL,hP⟩:=fG (P:=fun i (d:Nd)=>(∃ vc ve,NdIn W g (off+i*6) d vc ve)∧NdZ d∧NdB (Rows.uptoBulk x.1) d) (n:=len) fun i hi=>by
      obtain ⟨cs,hc,ht⟩:=hel i (by omega);rw [ad2] at hc;obtain ⟨d,h1,h2,h3⟩:=pG hc ht
      have hb:Rows.uptoBulk (D i)≤Rows.uptoBulk x.1:=by
       rw [hxi];exact sM (List.mem_map.2 ⟨i,List.mem_range.2 hi,rfl⟩)
      exact ⟨d,h1,h2,Nat.le_trans h3.1 hb,Nat.le_trans h3.2 hb⟩
     subst hL;refine ⟨_,L,rfl,⟨_,_,rfl,hl,Or.inr ⟨g,off,rfl,?_,fun i hi=>(hP i hi).1⟩⟩,hz,?_,?_⟩
     · have:=cU hcell
       rw [ad2,ad2] at this;exact this
     · rw [hxi]
       have h1:=fP ((List.range L.length).map D);rw [List.length_map,List.length_range] at h1;simp only [Rows.uptoBulk];omega
     · intro d hd
       obtain ⟨i,hi,rfl⟩:=List.getElem_of_mem hd;exact (hP i hi).2
theorem mQ {H:Type} {enc:TypeId×Value→H} {W:World} {base b0:Nat} {held:Bool} {v:Value} {d:DataW H} {p:List MemPlace} (hv:Value.okWide Tryz.prog W .any b0 55 v) (h:DataW.Trod enc Tryz.prog W base (fun _=>true) held 55 v d p):
 ∃ (G:List Nd) (u:Value),v= .agg #[u]∧NodesAt W u G∧G.length≤9223372036854775807∧G.length≤Rows.uptoBulk d∧∀ n ∈ G,NdZ n∧NdB (Rows.uptoBulk d) n:=by
 have hs:Tryz.prog.underlying 55=some (.struct (Tryz.prog.fieldsOf 55)):=by kernel_rfl
 obtain ⟨cs,rfl,hsz⟩:=okWide_struct hs hv;obtain ⟨n,h⟩:=h;obtain ⟨xs,n',_,hxx,_,hxl,hf⟩:=DataW.trod_struct hs h;have hfz:(Tryz.prog.fieldsOf 55).size=1:=by kernel_rfl
 rw [oJ] at hsz;obtain ⟨f0,i0,t0,o0⟩:=bB (fs:=Tryz.prog.fieldsOf 55) (i:=0) (ty:=53) (off:=0) (by kernel_rfl);have r0:=hf 0 f0 i0;rw [t0,o0,oI,List.getElem?_eq_getElem (by omega:0<xs.length)] at r0;obtain ⟨u,G,e0,h0,z0,zb,m0⟩:=sN r0;have hd:d= .agg (xs.map (·.1)):=congrArg Prod.fst hxx
 have b0:Rows.uptoBulk xs[0].1≤Rows.uptoBulk d:=by
  rw [hd];exact gJ (i:=0) (by rw [List.getElem?_map,List.getElem?_eq_getElem (by omega:0<xs.length)];rfl)
 have k0:cs.toList[0]? =some u:=eS e0;obtain ⟨l⟩:=cs
 match l,hsz with
 |[x0],_=>
  simp at k0
  subst k0;exact ⟨G,_,rfl,h0,z0,Nat.le_trans zb b0,fun n hn=>⟨(m0 n hn).1,Nat.le_trans (m0 n hn).2.1 b0,Nat.le_trans (m0 n hn).2.2 b0⟩⟩
theorem AD {α:Type} {l:List α} (h:l.length=6):∃ a b c d e f,l=[a,b,c,d,e,f]:=by
 match l,h with
 |[a,b,c,d,e,f],_=>exact ⟨a,b,c,d,e,f,rfl⟩
theorem sO {H:Type} {enc:TypeId×Value→H} {W:World} {base b0:Nat} {held:Bool} {v:Value} {d:DataW H} {p:List MemPlace} (hv:Value.okWide Tryz.prog W .any b0 67 v) (h:DataW.Trod enc Tryz.prog W base (fun _=>true) held 67 v d p):
 ∃ (x:Nd) (vc ve:Value),v= .agg #[.string x.nm,.int .i64 x.a,.int .i64 x.b,.int .i64 x.c,vc,ve]∧PinsAt W vc x.cx∧EdgesAt W ve x.ed:=by
 have hs:Tryz.prog.underlying 67=some (.struct (Tryz.prog.fieldsOf 67)):=by kernel_rfl
 obtain ⟨cs,rfl,hsz⟩:=okWide_struct hs hv;obtain ⟨n,h⟩:=h;obtain ⟨xs,n',_,_,_,hxl,hf⟩:=DataW.trod_struct hs h;have hfz:(Tryz.prog.fieldsOf 67).size=4:=by kernel_rfl
 rw [jS] at hsz;obtain ⟨f0,i0,t0,o0⟩:=bB (fs:=Tryz.prog.fieldsOf 67) (i:=0) (ty:=9) (off:=0) (by kernel_rfl);obtain ⟨f1,i1,t1,o1⟩:=bB (fs:=Tryz.prog.fieldsOf 67) (i:=1) (ty:=31) (off:=1) (by kernel_rfl);obtain ⟨f2,i2,t2,o2⟩:=bB (fs:=Tryz.prog.fieldsOf 67) (i:=2) (ty:=40) (off:=4) (by kernel_rfl);obtain ⟨f3,i3,t3,o3⟩:=bB (fs:=Tryz.prog.fieldsOf 67) (i:=3) (ty:=65) (off:=5) (by kernel_rfl);have r0:=hf 0 f0 i0;have r1:=hf 1 f1 i1;have r2:=hf 2 f2 i2;have r3:=hf 3 f3 i3;rw [t0,o0,eJ,List.getElem?_eq_getElem (by omega:0<xs.length)] at r0;rw [t1,o1,iF,List.getElem?_eq_getElem (by omega:1<xs.length)] at r1;rw [t2,o2,jT,List.getElem?_eq_getElem (by omega:2<xs.length)] at r2;rw [t3,o3,iJ,List.getElem?_eq_getElem (by omega:3<xs.length)] at r3;obtain ⟨s,e0,_,hs0⟩:=DataW.trod_string Tryz.underlying9 r0;obtain ⟨a,b,c,ea,eb,ec,_⟩:=fF r1;obtain ⟨vc,L1,e2,h2,z2,m2⟩:=qL r2
 obtain ⟨ve,L2,e3,h3,z3,m3⟩:=lX r3;have k0:cs.toList[0]? =some (.string s):=eS e0;have k2:cs.toList[4]? =some vc:=eS e2;have k3:cs.toList[5]? =some ve:=eS e3;have ka:((cs.toList.drop 1).take 3)[0]? =some (.int .i64 a):=ea;have kb:((cs.toList.drop 1).take 3)[1]? =some (.int .i64 b):=eb;have kc:((cs.toList.drop 1).take 3)[2]? =some (.int .i64 c):=ec;obtain ⟨l⟩:=cs;obtain ⟨x0,x1,x2,x3,x4,x5,rfl⟩:=AD (l:=l) (by simpa using hsz)
 simp at k0 k2 k3 ka kb kc
 subst k0 k2 k3 ka kb kc;exact ⟨⟨s,a,b,c,L1,L2⟩,_,_,rfl,h2,h3⟩
theorem mR {α:Type} (f:α→Nat) (b:Nat):∀ l:List α,(∀ x ∈ l,f x≤b)→(l.map f).sum≤l.length*b
 |[],_=>by simp
 |x::r,h=>by
  have h1:=mR f b r fun y hy=>h y (List.mem_cons_of_mem _ hy)
  have h2:=h x (List.mem_cons_self ..);rw [List.map_cons,List.sum_cons,List.length_cons,Nat.add_mul];omega
theorem qP {n:Nat} {G:List Nd} (hn:n≤1048576) (hl:G.length≤n) (h:∀ x ∈ G,NdZ x∧NdB n x):GrB G∧(∀ x ∈ G,x.nm.size≤281474976710656):=by
 refine ⟨⟨⟨by omega,?_⟩,fun x hx=>⟨(h x hx).1.2.1.1,(h x hx).1.2.2.1⟩⟩,fun x hx=>by have:=(h x hx).2.1;omega⟩
 have h1:=mR (fun i=>(edA G i).length) 1048576 (List.range G.length) fun i hi=>by
  rw [oM (List.mem_range.1 hi)]
  have:=(h _ (List.getElem_mem (List.mem_range.1 hi))).2.2
  omega
 rw [List.length_range] at h1;have h2:G.length*1048576≤1048576*1048576:=Nat.mul_le_mul (by omega) (Nat.le_refl _);unfold wZ;omega
end Go.Proofs.YtpfemjlhklnfoaaGreatDoor.Rg
namespace Go.Proofs.YtpfemjlhklnfoaaGreatDoor
open Go.RowKit Go.Maps Go.WideMaps
set_option maxRecDepth 100000
theorem Below.drewN {B:Nat} {w w':World} (h:Below B w w') (n:Nat):Below B w (w'.drewN n):=⟨h.os,h.tape,h.output,h.size,h.block⟩
theorem vD {w:World} {B:Nat} {e:TypeId} {z:Nat} {v:Value} {n:Nat} {xs:List Value} (h:w.ownsRow B e z v n xs) (hn:0<n):∃ g cap,B≤g∧g<w.heap.size∧v= .slice (some ⟨g,0,none⟩) n cap∧n≤cap∧∀ j u,xs[j]? =some u→w.cell? ⟨g,j,none⟩=some u:=by
 rcases h.2 with ⟨_,hn⟩|⟨g,cap,cur,rfl,hB,hgg,hc,_,_,ht⟩
 · omega
 · refine ⟨g,cap,hB,(Array.getElem?_eq_some_iff.1 hgg).1,rfl,hc,fun j u hj=> ?_⟩
   have e:=mO hgg ht j u hj;have e2:(⟨g,0,none⟩:Addr).add j=⟨g,j,none⟩:=by unfold Addr.add;split<;>simp_all
   rw [e2] at e;exact e
theorem xP {w:World} {B:Nat} {e:TypeId} {z:Nat} {v:Value} {n:Nat} {xs:List Value} (h:w.ownsRow B e z v n xs):∃ ad cap,v= .slice ad n cap:=by
 rcases h.2 with ⟨rfl,hn⟩|⟨g,cap,cur,rfl,_⟩
 · exact ⟨none,0,by rw [hn]⟩
 · exact ⟨_,_,rfl⟩
def aF (p:Pn):List Value:=[.string p.nm,.int .i64 p.a,.int .i64 p.b,.int .i64 p.c]
def OwnPn (w:World) (B:Nat) (v:Value) (ps:List Pn):Prop:=w.ownsRow B 80 4 v ps.length (ps.flatMap aF)
theorem pH:(Tryz.prog.info? 80).map (fun i=>(i.zero,i.size,i.bytes))=some (some (.agg #[.string ⟨#[]⟩,.int .i64 0,.int .i64 0,.int .i64 0]),4,40):=by kernel_rfl
theorem OwnPn.nil (w:World) (B:Nat):OwnPn w B (.slice none 0 0) []:=⟨rfl,Or.inl ⟨rfl,rfl⟩⟩
end Go.Proofs.YtpfemjlhklnfoaaGreatDoor
namespace Go.Proofs.YtpfemjlhklnfoaaGreatDoor
open Go.Shelf Go.RowKit Go.Lib Go.Sort
set_option maxRecDepth 100000
def nmQ (x:Pn):List UInt8:=x.nm.data.toList
def vcQ (x:Pn):Vn:=⟨x.a,x.b,x.c⟩
def xQ (x y:Pn):Int:=if Lib.compareBytes (nmQ x) (nmQ y)=0 then zJ (vcQ y) (vcQ x) else Lib.compareBytes (nmQ x) (nmQ y)
def ltQ (x y:Pn):Bool:=bytesBefore (nmQ x) (nmQ y)||(decide (nmQ x=nmQ y)&&gtV (vcQ y) (vcQ x))
theorem gK (x y:Pn):ltOf xQ x y=ltQ x y:=by
 unfold ltOf xQ ltQ
 by_cases h:nmQ x=nmQ y
 · rw [if_pos ((eY _ _).2 h),decide_eq_true h,h,WideAt.bytes_irrefl,Bool.false_or,Bool.true_and,←ltG]
   rfl
 · rw [if_neg (fun q=>h ((eY _ _).1 q)),decide_eq_false h,Bool.false_and,Bool.or_false,Bool.eq_iff_iff,decide_eq_true_iff]
   exact eX _ _
theorem qQ {x y:Pn}:ltQ x y=true↔bytesBefore (nmQ x) (nmQ y)=true∨(nmQ x=nmQ y∧gtV (vcQ y) (vcQ x)=true):=by
 unfold ltQ;rw [Bool.or_eq_true,Bool.and_eq_true,decide_eq_true_iff]
theorem pI {x y:Pn}:ltQ x y=false↔bytesBefore (nmQ x) (nmQ y)=false∧(nmQ x=nmQ y→gtV (vcQ y) (vcQ x)=false):=by
 rw [Bool.eq_false_iff,ne_eq,qQ,not_or]
 constructor
 · rintro ⟨h1,h2⟩
   exact ⟨Bool.eq_false_iff.2 h1,fun e=>Bool.eq_false_iff.2 fun q=>h2 ⟨e,q⟩⟩
 · rintro ⟨h1,h2⟩
   exact ⟨Bool.eq_false_iff.1 h1,fun q=>by rw [h2 q.1] at q;cases q.2⟩
theorem sP {x y:Pn} (h1:ltQ x y=false) (h2:ltQ y x=false):x=y:=by
 rw [pI] at h1 h2
 have e:nmQ x=nmQ y:=by
  by_cases e:nmQ x=nmQ y
  · exact e
  · rcases WideAt.bytes_total _ _ e with r|r
    · rw [h1.1] at r;cases r
    · rw [h2.1] at r;cases r
 have e2:vcQ y=vcQ x:=sH (h1.2 e) (h2.2 e.symm);obtain ⟨s,a,b,c⟩:=x;obtain ⟨s',a',b',c'⟩:=y;unfold vcQ at e2;unfold nmQ at e;simp only [Vn.mk.injEq] at e2;obtain ⟨rfl,rfl,rfl⟩:=e2
 have e3:s=s':=by
  obtain ⟨⟨l⟩⟩:=s;obtain ⟨⟨l'⟩⟩:=s'
  simpa using e
 rw [e3]
theorem zK:SWO (ltOf xQ) where
 irrefl x:=by rw [gK,pI];exact ⟨WideAt.bytes_irrefl _,fun _=>oW _⟩
 trans x y z h1 h2:=by
  rw [gK,qQ] at*
  rcases h1 with h1|⟨e1,g1⟩
  · rcases h2 with h2|⟨e2,g2⟩
    · exact Or.inl (WideShapes.bytes_trans _ _ _ h1 h2)
    · exact Or.inl (e2 ▸ h1)
  · rcases h2 with h2|⟨e2,g2⟩
    · exact Or.inl (e1 ▸ h2)
    · exact Or.inr ⟨e1.trans e2,sI g2 g1⟩
 ntrans x y z h1 h2:=by
  rw [gK,pI] at*;refine ⟨gF h1.1 h2.1,fun e=> ?_⟩
  have e1:nmQ x=nmQ y:=by
   by_cases q:nmQ x=nmQ y
   · exact q
   · rcases WideAt.bytes_total _ _ q with r|r
     · rw [h1.1] at r;cases r
     · rw [e] at r;rw [h2.1] at r;cases r
  exact oX (h2.2 (e1 ▸ e)) (h1.2 e1)
set_option maxHeartbeats 3200000 in
theorem pJ (s t:ByteArray) (a b c x y z:Int) (w:World):Calls Tryz.prog 76 #[.agg #[.string s,.int .i64 a,.int .i64 b,.int .i64 c],.agg #[.string t,.int .i64 x,.int .i64 y,.int .i64 z]] w fun e w'=>e= .returned (.int .i64 (if Lib.compareBytes s.data.toList t.data.toList=0 then bQ a b c x y z else Lib.compareBytes s.data.toList t.data.toList))∧Gd w w':=by
 have HSC:Hid (∀ W,Calls Tryz.prog 105 #[.string s,.string t] W fun e w'=>e= .returned (.int .i64 (Lib.compareBytes s.data.toList t.data.toList))∧w'=W):=fun W=>Tryz.strings_Compare s t W
 have HGF:Hid (∀ W,Calls Tryz.prog 95 #[.agg #[.int .i64 a,.int .i64 b,.int .i64 c],.agg #[.int .i64 x,.int .i64 y,.int .i64 z]] W fun e w'=>e= .returned (.int .i64 (bQ a b c x y z))∧Gd W w'):=oN a b c x y z;generalize Lib.compareBytes s.data.toList t.data.toList=r1 at*;generalize bQ a b c x y z=r2 at*;have HOR:Hid (∀ W:World,Calls Tryz.prog 104 #[.slice (some ⟨W.heap.size,0,none⟩) 2 2] (W.alloc (.cells #[.int .i64 r1,.int .i64 r2] 3)) fun e w'=>e= .returned (.int .i64 (if r1=0 then r2 else r1))∧w'=(W.alloc (.cells #[.int .i64 r1,.int .i64 r2] 3))):=fun W=>zG (by simp) (by simp)
 generalize (if r1=0 then r2 else r1)=rr at*;have HG0:Hid (Gd w ((w.alloc (.cells #[.string s,.int .i64 a,.int .i64 b,.int .i64 c] 80)).alloc (.cells #[.string t,.int .i64 x,.int .i64 y,.int .i64 z] 80)).drew):=(Gd.box2 _ _ _).trans (Gd.drew _)
 have HCE:Hid (∀ W:World,Gd ((w.alloc (.cells #[.string s,.int .i64 a,.int .i64 b,.int .i64 c] 80)).alloc (.cells #[.string t,.int .i64 x,.int .i64 y,.int .i64 z] 80)).drew W→(W.cell? ⟨w.heap.size,0,none⟩=some (.string s)∧W.cell? ⟨w.heap.size,1,none⟩=some (.int .i64 a)∧W.cell? ⟨w.heap.size,2,none⟩=some (.int .i64 b)∧W.cell? ⟨w.heap.size,3,none⟩=some (.int .i64 c))∧W.cell? ⟨w.heap.size+1,0,none⟩=some (.string t)∧W.cell? ⟨w.heap.size+1,1,none⟩=some (.int .i64 x)∧W.cell? ⟨w.heap.size+1,2,none⟩=some (.int .i64 y)∧W.cell? ⟨w.heap.size+1,3,none⟩=some (.int .i64 z)):=fun W hg=>by
  have hb:=hg.below;have q:∀ (g i:Nat),g<w.heap.size+2→W.cell? ⟨g,i,none⟩=((w.alloc (.cells #[.string s,.int .i64 a,.int .i64 b,.int .i64 c] 80)).alloc (.cells #[.string t,.int .i64 x,.int .i64 y,.int .i64 z] 80)).cell? ⟨g,i,none⟩:=fun g i hg=>hb.cell (p:=⟨g,i,none⟩) (by simpa using hg)
  refine ⟨⟨?_,?_,?_,?_⟩,?_,?_,?_,?_⟩<;>rw [q _ _ (by omega)]<;>simp
 obtain ⟨⟨k0,k1,k2,k3⟩,j0,j1,j2,j3⟩:=HCE.out _ (Gd.refl _)
 go_enter Tryz.func76,Tryz.ntmps76
 go_wp2_with fail
 generalize ((w.alloc (.cells #[.string s,.int .i64 a,.int .i64 b,.int .i64 c] 80)).alloc (.cells #[.string t,.int .i64 x,.int .i64 y,.int .i64 z] 80))=W0 at*
 go_region_held3 (fun w'=>w'.cell? ⟨w.heap.size,0,none⟩=some (.string s)∧w'.cell? ⟨w.heap.size,1,none⟩=some (.int .i64 a)∧w'.cell? ⟨w.heap.size,2,none⟩=some (.int .i64 b)∧w'.cell? ⟨w.heap.size,3,none⟩=some (.int .i64 c)∧w'.cell? ⟨w.heap.size+1,0,none⟩=some (.string t)∧w'.cell? ⟨w.heap.size+1,1,none⟩=some (.int .i64 x)∧w'.cell? ⟨w.heap.size+1,2,none⟩=some (.int .i64 y)∧w'.cell? ⟨w.heap.size+1,3,none⟩=some (.int .i64 z)) (go_keep) (first
  |(go_at_call 105;refine (HSC.out _).mono ?_;rintro e w1 ⟨rfl,rfl⟩)
  |(go_at_call 95;refine (HGF.out _).mono ?_;rintro e w2 ⟨rfl,hg⟩;have HG2:=aA hg;obtain ⟨⟨k0,k1,k2,k3⟩,j0,j1,j2,j3⟩:=HCE.out _ hg;clear hg)
  |(go_at_call 104;refine (HOR.out w2).mono ?_;rintro e w3 ⟨rfl,rfl⟩))
 all_goals go_wp2
 all_goals go_ret
 all_goals exact ⟨rfl,(HG0.out.trans HG2.out).trans (Gd.box _ _)⟩
theorem sQ {w:World} {base:Nat} {v:Value} {V:List Pn} (hown:OwnPn w base v V) (hz:V.length≤100000000000000):
 Calls Tryz.prog 75 #[v,.func (.func 76) #[] #[]] w fun e w'=>e= .returned (.tuple #[])∧∃ ts:List Pn,ts.Perm V∧(ts.Pairwise fun x y=>ltQ y x=false)∧OwnPn w' base v ts∧w.grownBy w' v.ownBlock:=by
 haveI:Inhabited Pn:=⟨⟨⟨#[]⟩,0,0,0⟩⟩
 have eg:∀ args w,(callFunc 76 args).run Tryz.prog w= .ok (.enter 76 args) w:=enters_of Tryz.func76 (by kernel_rfl) rfl;have h:=uX Tryz.sortP 4 (by decide) Tryz.isAgg80 Tryz.sizeOf80 aF (fun _=>rfl) (fun x v hv=>by simp [aF] at hv;rcases hv with rfl|rfl|rfl|rfl<;>rfl) xQ zK 76 eg (fun x y W=>pJ _ _ _ _ _ _ _ _ W) hown (by omega);simp only [gK] at h;exact h
end Go.Proofs.YtpfemjlhklnfoaaGreatDoor
namespace Go.Proofs.YtpfemjlhklnfoaaGreatDoor
open Go.Shelf Go.RowKit Go.Lib Go.Sort Go.Maps Go.WideMaps
set_option maxRecDepth 100000
def vE (x y:Pn):Int:=Lib.compareBytes x.nm.data.toList y.nm.data.toList
def ltP (x y:Pn):Bool:=bytesBefore x.nm.data.toList y.nm.data.toList
theorem zL (x y:Pn):ltOf vE x y=ltP x y:=by
 unfold ltOf vE ltP;rw [Bool.eq_iff_iff,decide_eq_true_iff];exact eX _ _
end Go.Proofs.YtpfemjlhklnfoaaGreatDoor
namespace Go.Proofs.YtpfemjlhklnfoaaGreatDoor
open Go.RowKit Go.Maps Go.WideMaps
set_option maxRecDepth 100000
theorem mS (l:List Pn) (i:Nat) (h:i<l.length):(l.flatMap aF)[i*4]? =some (.string l[i].nm)∧(l.flatMap aF)[i*4+1]? =some (.int .i64 l[i].a)∧(l.flatMap aF)[i*4+2]? =some (.int .i64 l[i].b)∧(l.flatMap aF)[i*4+3]? =some (.int .i64 l[i].c):=by
 haveI:Inhabited Pn:=⟨l[i]⟩
 have h0:=bY aF 4 (fun _=>rfl) l i 0 h (by decide);have h1:=bY aF 4 (fun _=>rfl) l i 1 h (by decide);have h2:=bY aF 4 (fun _=>rfl) l i 2 h (by decide);have h3:=bY aF 4 (fun _=>rfl) l i 3 h (by decide);rw [getElem!_pos l i h] at h0 h1 h2 h3;exact ⟨h0,h1,h2,h3⟩
theorem cS {w:World} {B:Nat} {v:Value} {ps:List Pn} (h:OwnPn w B v ps) (i:Nat) (hi:i<ps.length):∃ g cap,B≤g∧g<w.heap.size∧v= .slice (some ⟨g,0,none⟩) ps.length cap∧ps.length≤cap∧PnIn w g (i*4) ps[i]:=by
 obtain ⟨g,cap,h1,h2,h3,h4,q⟩:=vD h (by omega);obtain ⟨e0,e1,e2,e3⟩:=mS ps i hi;exact ⟨g,cap,h1,h2,h3,h4,⟨q _ _ e0,q _ _ e1,q _ _ e2,q _ _ e3⟩,h2⟩
end Go.Proofs.YtpfemjlhklnfoaaGreatDoor
