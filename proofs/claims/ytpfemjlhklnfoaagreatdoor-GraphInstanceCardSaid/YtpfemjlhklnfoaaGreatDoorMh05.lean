/- Ct3, Ct1, Ps1b, Ct4, ScNm1, ScNm2, Pk3: their declarations that are needed, laid in one text, remarks and blanks left out. -/
import Derived.DeepKeys4
import Derived.Maps.OwnSet
import Derived.Maps.RangeWalk
import Derived.Test.YtpfemjlhklnfoaaGreatDoorMh04
namespace Go.Proofs.YtpfemjlhklnfoaaGreatDoor
open Go.RowKit
set_option maxRecDepth 100000
theorem MI:(Tryz.prog.info? 89).map (fun i=>(i.zero,i.size,i.bytes))=some (some (.agg #[.string ⟨#[]⟩,.slice none 0 0]),2,40):=by kernel_rfl
theorem OwnD.snoc {W w1:World} {B:Nat} {vo v1 vs:Value} {ps:List (Dp×Value)} {d:Dp} (h:OwnD W B vo ps) (hs:OwnS W B vs d.rg) (ho:w1.ownsRow B 89 2 v1 (ps.length+1) (dJ ps++[.string d.nm,vs])) (hg:W.grownBy w1 vo.ownBlock):OwnD w1 B v1 (ps++[(d,vs)]):=by
 refine ⟨?_,fun p hp=> ?_⟩
 · rw [List.length_append,rL]
   exact ho
 · rcases List.mem_append.1 hp with hp|hp
   · exact World.ownsRow.kept (h.2 p hp) hg (pP (h.2 p hp) h.1 (by decide))
   · obtain rfl:=List.mem_singleton.1 hp
     exact World.ownsRow.kept hs hg (pP hs h.1 (by decide))
def SmD (L:List Dp):Prop:=L.length≤1000000∧∀ d ∈ L,d.nm.size≤1000000∧d.rg.length≤1000000
set_option maxHeartbeats 12800000 in
theorem BD {L:List Dp} {v:Value} {w:World} (h:DepsAt w v L) (hz:SmD L):Calls Tryz.prog 84 #[v] w fun e w'=>∃ v',e= .returned v'∧∃ ps,OwnD w' w.heap.size v' ps∧ps.map (·.1)=L∧Below w.heap.size w w':=by
 obtain ⟨ad,cap,rfl,hcap,hc⟩:=h;have HCL:Hid (∀ (W:World) (u:Value) (R:List Sp),SpansC W u R→R.length≤1000000→Calls Tryz.prog 138 #[u] W fun e w'=>∃ v',e= .returned v'∧OwnS w' W.heap.size v' R∧Below W.heap.size W w'):=fun W u R hu hr=>wC hu hr
 have HSC:Hid (∀ (s:ByteArray) (W:World),s.size≤1000000→Calls Tryz.prog 78 #[.string s] W fun e w'=>e= .returned (.string s)∧Below W.heap.size W w'):=fun s W hs=>eM s (by omega) W
 have HEL:Hid (∀ i (h:i<L.length),∃ g o u,ad=some ⟨g,o,none⟩∧DpIn w g (o+i*2) L[i] u):=fun i hi=>by
  rcases hc with e|⟨g,o,e,hg,hu⟩
  · rw [e] at hi;cases hi
  · obtain ⟨u,hu⟩:=hu i hi
    exact ⟨g,o,u,e,hu⟩
 have HSZ:=aA hz.2;have hLL:=hz.1;clear hc hz
 go_enter Tryz.func84,Tryz.ntmps84
 go_wp2_with fail
 go_loopw [3,8] (fun vo vi wr=>∃ (k:Nat) (ps:List (Dp×Value)),k≤L.length∧vi= .int .i64 k∧OwnD wr w.heap.size vo ps∧ps.map (·.1)=L.take k∧Below w.heap.size w wr) (fun _ vi _=>L.length - (intOf vi).toNat)
 case atStart=>exact ⟨0,[],Nat.zero_le _,rfl,OwnD.nil _ _,rfl,Below.refl _ _⟩
 case round=>
  obtain ⟨k,ps,hk,rfl,hod,hps,hb⟩:=hrel;obtain ⟨ao,co,rfl⟩:=hod.len;have HBR:=aA hb;have HOD:=aA hod;have HPS:=aA hps;have hpl:ps.length=k:=by have:=congrArg List.length hps;rw [List.length_map,List.length_take] at this;omega
  have hpz:ps.length≤1000000:=by omega
  clear hb hod hps hpl
  by_cases hlt:k<L.length
  · have hki:(k:Int)<(L.length:Int):=by omega
    obtain ⟨g,o,u,rfl,c0,c1,⟨hsp,_⟩,hg⟩:=HEL.out k hlt;obtain ⟨hz1,hz2⟩:=HSZ.out _ (List.getElem_mem hlt);have HTK:Hid (L.take (k+1)=L.take k++[L[k]]):=(List.take_succ_eq_append_getElem hlt);obtain ⟨d,hd⟩:∃ d,d=L[k]:=⟨_,rfl⟩;rw [←hd] at c0 hsp hz1 hz2 HTK;have d0:=(HBR.out.cell (p:=⟨g,o+k*2,none⟩) hg).trans c0;have d1:=(HBR.out.cell (p:=⟨g,o+k*2+1,none⟩) hg).trans c1;have HKD:Hid (KeepP fun W=>(Below w.heap.size w W∧OwnD W w.heap.size (.slice ao ps.length co) ps)∧SpansC W u d.rg):=fun a b hx hab=>⟨⟨aB hx.1.1 hab,hx.1.2.below hab⟩,hx.2.below hab⟩
    have HO0:Hid ((Below w.heap.size w wr∧OwnD wr w.heap.size (.slice ao ps.length co) ps)∧SpansC wr u d.rg):=⟨⟨HBR.out,HOD.out⟩,hsp.below HBR.out⟩;obtain ⟨⟨a2,c2,rfl,_⟩,_⟩:=hsp;have HO:Hid ((Below w.heap.size w (wr.alloc (.cells #[.string d.nm,.slice a2 d.rg.length c2] 89)).drew∧OwnD (wr.alloc (.cells #[.string d.nm,.slice a2 d.rg.length c2] 89)).drew w.heap.size (.slice ao ps.length co) ps)∧SpansC (wr.alloc (.cells #[.string d.nm,.slice a2 d.rg.length c2] 89)).drew (.slice a2 d.rg.length c2) d.rg):=HKD.out _ _ (HKD.out _ _ HO0.out (aD _ _)) (Below.refl _ _).drew
    have HBX:Hid (∀ W,Below (wr.alloc (.cells #[.string d.nm,.slice a2 d.rg.length c2] 89)).heap.size (wr.alloc (.cells #[.string d.nm,.slice a2 d.rg.length c2] 89)) W→W.cell? ⟨wr.heap.size,0,none⟩=some (.string d.nm)∧W.cell? ⟨wr.heap.size,1,none⟩=some (.slice a2 d.rg.length c2)):=fun W hb=>⟨(hb.cell (p:=⟨wr.heap.size,0,none⟩) (by simp)).trans (by simp),(hb.cell (p:=⟨wr.heap.size,1,none⟩) (by simp)).trans (by simp)⟩
    have HBB:Hid (Below (wr.alloc (.cells #[.string d.nm,.slice a2 d.rg.length c2] 89)).heap.size (wr.alloc (.cells #[.string d.nm,.slice a2 d.rg.length c2] 89)) (wr.alloc (.cells #[.string d.nm,.slice a2 d.rg.length c2] 89)).drew):=(Below.refl _ _).drew;have hle:w.heap.size≤wr.heap.size:=HBR.out.size;have HNE:Hid (some wr.heap.size≠(Value.slice ao ps.length co).ownBlock):=fun e=>by have:=(HOD.out.1.lt _ e.symm).2;omega
    have HFIN:Hid (∀ (w6 w7:World) (vs v1:Value),((Below w.heap.size w w6∧OwnD w6 w.heap.size (.slice ao ps.length co) ps)∧SpansC w6 (.slice a2 d.rg.length c2) d.rg)→OwnS w6 w.heap.size vs d.rg→w7.ownsRow w.heap.size 89 2 v1 (ps.length+1) (dJ ps++[.string d.nm,vs])→w6.grownBy w7 (Value.slice ao ps.length co).ownBlock→OwnD w7 w.heap.size v1 (ps++[(d,vs)])∧(ps++[(d,vs)]).map (·.1)=L.take (k+1)∧Below w.heap.size w w7):=fun w6 w7 vs v1 h6 hs ho hg=>⟨OwnD.snoc h6.1.2 hs ho hg,by rw [List.map_append,HPS.out,HTK.out];rfl,h6.1.1.trans (dN hg (fun g e=>(h6.1.2.1.lt g e).1) h6.1.1.size)⟩
    clear hcap hd
    go_wp2_with fail
    go_region_held3 (fun w'=>w'.cell? ⟨wr.heap.size,0,none⟩=some (.string d.nm)∧w'.cell? ⟨wr.heap.size,1,none⟩=some (.slice a2 d.rg.length c2)) (go_keep) (first
     |(go_at_call 78;refine (HSC.out _ _ hz1).mono ?_;rintro e w5 ⟨rfl,hb5⟩;have HB5:=aA (aB HBB.out hb5);have HO5:=aA (HKD.out _ _ HO.out hb5);obtain ⟨x0,x1⟩:=HBX.out _ HB5.out;clear hb5)
     |(go_at_call 138;refine (HCL.out _ _ _ HO5.out.2 hz2).mono ?_;rintro e w6 ⟨vs,rfl,hos,hb6⟩;have HB6:=aA (aB HB5.out hb6);have HO6:=aA (HKD.out _ _ HO5.out hb6);obtain ⟨y0,y1⟩:=HBX.out _ HB6.out;have HS6:Hid (OwnS w6 w.heap.size vs d.rg):=hos.base HO5.out.1.1.size;obtain ⟨a6,c6,rfl,_,_⟩:=hos.sp;have hB6:w.heap.size≤w6.heap.size:=HO6.out.1.1.size;clear hb6 hos)
     |(refine nH (B:=w.heap.size) (M:=w6.heap.size) (wx:=w6) (v:= .slice ao ps.length co) MI Tryz.underlying32 rfl (by decide) (by decide) rfl (.tmp 12) (.tmp 20) rfl rfl HO6.out.1.2.1 hB6 #[.string d.nm,.slice a6 d.rg.length c6] rfl (by simp [Value.oneCell']) rfl rfl (by omega) ?_;intro v1 w7 ho hgr hat;obtain ⟨g7,cap7,rfl,_⟩:=ho.form (by omega);have HP:=aA (HFIN.out _ _ _ _ HO6.out HS6.out ho (cR (aD _ _) hgr));have z0:=(cR (aD _ _) hgr).cell y0 HNE.out;have z1:=(cR (aD _ _) hgr).cell y1 HNE.out;clear ho hgr hat))
    all_goals go_wp2
    all_goals exact ⟨⟨k+1,_,by omega,by go_num,HP.out.1,HP.out.2.1,HP.out.2.2⟩,by simp [intOf];omega⟩
  · obtain rfl:k=L.length:=by omega
    have HPL:Hid (ps.map (·.1)=L):=by
     unfold Hid;rw [HPS.out,List.take_length]
    have hki:¬ ((L.length:Int)<(L.length:Int)):=by omega
    clear HPS
    go_wp2
    go_ret;exact ⟨_,rfl,ps,HOD.out,HPL.out,HBR.out⟩
end Go.Proofs.YtpfemjlhklnfoaaGreatDoor
namespace Go.Proofs.YtpfemjlhklnfoaaGreatDoor
open Go.RowKit Go.Maps Go.WideMaps
set_option maxRecDepth 100000
theorem nI:Keyed Tryz.prog 80:=Keyed.of_law (deep_law_laid (m:=5) (by kernel_rfl) (by decide) (of_decide_eq_true (by kernel_rfl)) (by kernel_rfl) (by kernel_rfl))
theorem MJ (w:World):(zeroValue 34).run Tryz.prog w= .ok (.agg #[.string ByteArray.empty,.int .i64 0,.int .i64 0,.int .i64 0,.slice none 0 0,.slice none 0 0,.slice none 0 0]) w:=by kernel_rfl
def eU (v:Value):Option (DataW Value×List MemPlace):=some (.held v,[])
theorem fP {v u:Value} {ps:List MemPlace} (h:eU v=some (.held u,ps)):v=u:=by
 unfold eU at h;injection h with h
 injection h with h _
 injection h
def I64 (a:Int):Prop:=(Lit.int .i64 a).wf=true
def tK (s:ByteArray) (a b c:Int):Value:= .agg #[.string s,.int .i64 a,.int .i64 b,.int .i64 c]
theorem ER (d:Nat) {s:ByteArray} (hs:s.size≤maxLen):Tryz.prog.keyLits (d+1) 9 [.string s]=some [.string s.data.toList]:=by
 unfold Program.keyLits;rw [Tryz.underlying9];simp [hs]
theorem ES (d:Nat) {a:Int} (ha:I64 a):Tryz.prog.keyLits (d+1) 3 [.int .i64 a]=some [.int .i64 a]:=by
 unfold Program.keyLits;rw [Tryz.underlying3]
 have:(Lit.int .i64 a).wf=true:=ha
 simp [this]
theorem OI:Tryz.prog.underlying 31=some (.struct (Tryz.prog.fieldsOf 31)):=by kernel_rfl
theorem wD:Tryz.prog.underlying 80=some (.struct (Tryz.prog.fieldsOf 80)):=by kernel_rfl
theorem MK:(Tryz.prog.fieldsOf 31).toList.map (fun f=>(f.type,f.offset,Tryz.prog.cellsOf f.type))=[(3,0,1),(3,1,1),(3,2,1)]∧(Tryz.prog.fieldsOf 31).all (·.name != "_")=true∧Tryz.prog.cellsOf 31=3:=⟨by kernel_rfl,by kernel_rfl,by kernel_rfl⟩
theorem rN:(Tryz.prog.fieldsOf 80).toList.map (fun f=>(f.type,f.offset,Tryz.prog.cellsOf f.type))=[(9,0,1),(31,1,3)]∧(Tryz.prog.fieldsOf 80).all (·.name != "_")=true∧Tryz.prog.cellsOf 80=4:=⟨by kernel_rfl,by kernel_rfl,by kernel_rfl⟩
theorem tL {P:Program} {d:Nat} {cs:List Value} (fs:List Field):(fs.mapM fun f=>P.keyLits d f.type ((cs.drop f.offset).take (P.cellsOf f.type)))=((fs.map fun f=>(f.type,f.offset,P.cellsOf f.type)).mapM fun x=>P.keyLits d x.1 ((cs.drop x.2.1).take x.2.2)):=by
 induction fs with
 |nil=>rfl
 |cons f r ih=>rw [List.mapM_cons,List.map_cons,List.mapM_cons,ih]
theorem klV (d:Nat) {a b c:Int} (ha:I64 a) (hb:I64 b) (hc:I64 c):Tryz.prog.keyLits (d+2) 31 [.int .i64 a,.int .i64 b,.int .i64 c]=some [.int .i64 a,.int .i64 b,.int .i64 c]:=by
 unfold Program.keyLits;rw [OI]
 simp only
 rw [if_pos ⟨by rw [MK.2.2];rfl,MK.2.1⟩,tL,MK.1];simp [List.mapM_cons,ES d ha,ES d hb,ES d hc]
theorem NT (d:Nat) {s:ByteArray} {a b c:Int} (hs:s.size≤maxLen) (ha:I64 a) (hb:I64 b) (hc:I64 c):Tryz.prog.keyLits (d+3) 80 [.string s,.int .i64 a,.int .i64 b,.int .i64 c]=some [.string s.data.toList,.int .i64 a,.int .i64 b,.int .i64 c]:=by
 unfold Program.keyLits;rw [wD]
 simp only
 rw [if_pos ⟨by rw [rN.2.2];rfl,rN.2.1⟩,tL,rN.1];simp [List.mapM_cons,ER (d+1) hs,klV d ha hb hc]
def gP (s:ByteArray) (a b c:Int):Lit:= .string (keyBytes [.string s.data.toList,.int .i64 a,.int .i64 b,.int .i64 c])
theorem iE {s:ByteArray} {a b c:Int} (hs:s.size≤maxLen) (ha:I64 a) (hb:I64 b) (hc:I64 c):keyOf Tryz.prog 80 (tK s a b c)=some (gP s a b c):=by
 unfold keyOf;rw [wD]
 simp only
 rw [if_pos (by
  rw [show Tryz.prog.keyType 80=true by kernel_rfl,Bool.true_and];unfold Value.formed tK;rw [wD]
  simp only
  rw [rN.2.2];rfl)]
 obtain ⟨d,hd⟩:∃ d,Tryz.prog.types.size+1=d+3:=⟨Tryz.prog.types.size - 2,by have:2≤Tryz.prog.types.size:=of_decide_eq_true (by kernel_rfl);omega⟩;rw [hd,show (tK s a b c).cells.toList=[.string s,.int .i64 a,.int .i64 b,.int .i64 c] from rfl,NT d hs ha hb hc];rfl
theorem tN {s s':ByteArray} {a b c a' b' c':Int} (hs:s.size≤maxLen) (ha:I64 a) (hb:I64 b) (hc:I64 c) (hs':s'.size≤maxLen) (ha':I64 a') (hb':I64 b') (hc':I64 c') (h:gP s a b c=gP s' a' b' c'):s=s'∧a=a'∧b=b'∧c=c':=by
 have e:=nI.inj (iE hs ha hb hc) (h ▸ iE hs' ha' hb' hc');unfold tK at e
 simp at e
 exact e
end Go.Proofs.YtpfemjlhklnfoaaGreatDoor
namespace Go.Proofs.YtpfemjlhklnfoaaGreatDoor
open Go.RowKit
set_option maxRecDepth 100000
def BxPF (w:World) (N:Nat) (s:ByteArray) (a b c:Int) (v1 v2 v3:Value):Prop:=BxP w N s a b c v1 v2 v3∧∀ i,i<7→w.frozen? ⟨N,i,none⟩=false
theorem cV (N:Nat) (s:ByteArray) (a b c:Int) (v1 v2 v3:Value):KeepP fun w1=>BxPF w1 N s a b c v1 v2 v3:=fun _ _ h hb=>
 ⟨bF _ _ _ _ _ _ _ _ _ _ h.1 hb,fun i hi=>(hb.frozen (p:=⟨N,i,none⟩) h.1.2.2.2.2.2.2.2).trans (h.2 i hi)⟩
theorem BxPF.new {w:World} {N:Nat} (hN:w.heap.size=N) (s:ByteArray) (a b c:Int) (v1 v2 v3:Value):BxPF (w.alloc (.cells #[.string s,.int .i64 a,.int .i64 b,.int .i64 c,v1,v2,v3] 34)) N s a b c v1 v2 v3:=by
 refine ⟨BxP.new hN _ _ _ _ _ _ _,fun i hi=> ?_⟩;subst hN
 simp
theorem aL {w:World} {N i j:Nat} {u x:Value} (h:i≠j) (hx:w.cell? ⟨N,j,none⟩=some x):(w.setCell ⟨N,i,none⟩ u).cell? ⟨N,j,none⟩=some x:=(World.cell?_setCell_other _ _ _ _ (fun e=>by cases e;exact h rfl)).trans hx
theorem ET {w:World} {N:Nat} {x0 x1 x2 x3 x4 x5 x6:Value} (j0:w.cell? ⟨N,0,none⟩=some x0) (j1:w.cell? ⟨N,1,none⟩=some x1) (j2:w.cell? ⟨N,2,none⟩=some x2) (j3:w.cell? ⟨N,3,none⟩=some x3) (j4:w.cell? ⟨N,4,none⟩=some x4) (j5:w.cell? ⟨N,5,none⟩=some x5) (j6:w.cell? ⟨N,6,none⟩=some x6) (u0 u1 u2 u3 u4 u5 u6:Value):
 (((((((w.setCell ⟨N,0,none⟩ u0).setCell ⟨N,1,none⟩ u1).setCell ⟨N,2,none⟩ u2).setCell ⟨N,3,none⟩ u3).setCell ⟨N,4,none⟩ u4).setCell ⟨N,5,none⟩ u5).setCell ⟨N,6,none⟩ u6).cell? ⟨N,0,none⟩=some u0∧(((((((w.setCell ⟨N,0,none⟩ u0).setCell ⟨N,1,none⟩ u1).setCell ⟨N,2,none⟩ u2).setCell ⟨N,3,none⟩ u3).setCell ⟨N,4,none⟩ u4).setCell ⟨N,5,none⟩ u5).setCell ⟨N,6,none⟩ u6).cell? ⟨N,1,none⟩=some u1∧(((((((w.setCell ⟨N,0,none⟩ u0).setCell ⟨N,1,none⟩ u1).setCell ⟨N,2,none⟩ u2).setCell ⟨N,3,none⟩ u3).setCell ⟨N,4,none⟩ u4).setCell ⟨N,5,none⟩ u5).setCell ⟨N,6,none⟩ u6).cell? ⟨N,2,none⟩=some u2∧(((((((w.setCell ⟨N,0,none⟩ u0).setCell ⟨N,1,none⟩ u1).setCell ⟨N,2,none⟩ u2).setCell ⟨N,3,none⟩ u3).setCell ⟨N,4,none⟩ u4).setCell ⟨N,5,none⟩ u5).setCell ⟨N,6,none⟩ u6).cell? ⟨N,3,none⟩=some u3∧(((((((w.setCell ⟨N,0,none⟩ u0).setCell ⟨N,1,none⟩ u1).setCell ⟨N,2,none⟩ u2).setCell ⟨N,3,none⟩ u3).setCell ⟨N,4,none⟩ u4).setCell ⟨N,5,none⟩ u5).setCell ⟨N,6,none⟩ u6).cell? ⟨N,4,none⟩=some u4∧(((((((w.setCell ⟨N,0,none⟩ u0).setCell ⟨N,1,none⟩ u1).setCell ⟨N,2,none⟩ u2).setCell ⟨N,3,none⟩ u3).setCell ⟨N,4,none⟩ u4).setCell ⟨N,5,none⟩ u5).setCell ⟨N,6,none⟩ u6).cell? ⟨N,5,none⟩=some u5∧(((((((w.setCell ⟨N,0,none⟩ u0).setCell ⟨N,1,none⟩ u1).setCell ⟨N,2,none⟩ u2).setCell ⟨N,3,none⟩ u3).setCell ⟨N,4,none⟩ u4).setCell ⟨N,5,none⟩ u5).setCell ⟨N,6,none⟩ u6).cell? ⟨N,6,none⟩=some u6:=by
 exact ⟨aL (by decide) (aL (by decide) (aL (by decide) (aL (by decide) (aL (by decide) (aL (by decide) (World.cell?_setCell_same _ _ _ (j0))))))),aL (by decide) (aL (by decide) (aL (by decide) (aL (by decide) (aL (by decide) (World.cell?_setCell_same _ _ _ (aL (by decide) (j1))))))),aL (by decide) (aL (by decide) (aL (by decide) (aL (by decide) (World.cell?_setCell_same _ _ _ (aL (by decide) (aL (by decide) (j2))))))),aL (by decide) (aL (by decide) (aL (by decide) (World.cell?_setCell_same _ _ _ (aL (by decide) (aL (by decide) (aL (by decide) (j3))))))),aL (by decide) (aL (by decide) (World.cell?_setCell_same _ _ _ (aL (by decide) (aL (by decide) (aL (by decide) (aL (by decide) (j4))))))),aL (by decide) (World.cell?_setCell_same _ _ _ (aL (by decide) (aL (by decide) (aL (by decide) (aL (by decide) (aL (by decide) (j5))))))),World.cell?_setCell_same _ _ _ (aL (by decide) (aL (by decide) (aL (by decide) (aL (by decide) (aL (by decide) (aL (by decide) (j6)))))))⟩
theorem dM {w w':World} {N B:Nat} {u0 u1 u2 u3 u4 u5 u6:Value} (hN:B≤N) (h:Below B w w'):Below B w (((((((w'.setCell ⟨N,0,none⟩ u0).setCell ⟨N,1,none⟩ u1).setCell ⟨N,2,none⟩ u2).setCell ⟨N,3,none⟩ u3).setCell ⟨N,4,none⟩ u4).setCell ⟨N,5,none⟩ u5).setCell ⟨N,6,none⟩ u6):=
 (((((((h.setCell (p:=⟨N,0,none⟩) hN _).setCell (p:=⟨N,1,none⟩) hN _).setCell (p:=⟨N,2,none⟩) hN _).setCell (p:=⟨N,3,none⟩) hN _).setCell (p:=⟨N,4,none⟩) hN _).setCell (p:=⟨N,5,none⟩) hN _).setCell (p:=⟨N,6,none⟩) hN _)
theorem pR {w:World} {N g:Nat} {u0 u1 u2 u3 u4 u5 u6:Value} (h:g≠N):(((((((w.setCell ⟨N,0,none⟩ u0).setCell ⟨N,1,none⟩ u1).setCell ⟨N,2,none⟩ u2).setCell ⟨N,3,none⟩ u3).setCell ⟨N,4,none⟩ u4).setCell ⟨N,5,none⟩ u5).setCell ⟨N,6,none⟩ u6).heap[g]? =w.heap[g]? :=
 (Below.heap_setCell _ _ _ _ h).trans ((Below.heap_setCell _ _ _ _ h).trans ((Below.heap_setCell _ _ _ _ h).trans ((Below.heap_setCell _ _ _ _ h).trans ((Below.heap_setCell _ _ _ _ h).trans ((Below.heap_setCell _ _ _ _ h).trans ((Below.heap_setCell _ _ _ _ h)))))))
def OwnG (w:World) (B:Nat) (P:Pg) (v1 v2 v3:Value):Prop:=∃ q1 q2 q3,(OwnD w B v1 q1∧q1.map (·.1)=P.d)∧(OwnD w B v2 q2∧q2.map (·.1)=P.p)∧(OwnD w B v3 q3∧q3.map (·.1)=P.o)
theorem OwnG.below {w w':World} {B:Nat} {P:Pg} {v1 v2 v3:Value} (h:OwnG w B P v1 v2 v3) (hb:Below w.heap.size w w'):OwnG w' B P v1 v2 v3:=by
 obtain ⟨q1,q2,q3,⟨a1,b1⟩,⟨a2,b2⟩,a3,b3⟩:=h;exact ⟨q1,q2,q3,⟨a1.below hb,b1⟩,⟨a2.below hb,b2⟩,a3.below hb,b3⟩
theorem OwnG.at {w:World} {B:Nat} {P:Pg} {v1 v2 v3:Value} (h:OwnG w B P v1 v2 v3):PgAt w P v1 v2 v3:=by
 obtain ⟨q1,q2,q3,⟨a1,b1⟩,⟨a2,b2⟩,a3,b3⟩:=h;exact ⟨b1 ▸ a1.at,b2 ▸ a2.at,b3 ▸ a3.at⟩
theorem OwnD.of {w w':World} {B:Nat} {v:Value} {ps:List (Dp×Value)} (h:OwnD w B v ps) (hk:∀ g,B≤g→g<w.heap.size→w'.heap[g]? =w.heap[g]?):OwnD w' B v ps:=
 ⟨rM h.1 fun g hg=>hk g (h.1.lt g hg).1 (h.1.lt g hg).2,fun p hp=>rM (h.2 p hp) fun g hg=>hk g (World.ownsRow.lt (h.2 p hp) g hg).1 (World.ownsRow.lt (h.2 p hp) g hg).2⟩
def SmP (P:Pg):Prop:=P.nm.size≤1000000∧SmD P.d∧SmD P.p∧SmD P.o
set_option maxHeartbeats 12800000 in
theorem nJ {P:Pg} {v1 v2 v3:Value} {w:World} (h:PgAt w P v1 v2 v3) (hz:SmP P):Calls Tryz.prog 44 #[.agg #[.string P.nm,.int .i64 P.a,.int .i64 P.b,.int .i64 P.c,v1,v2,v3]] w fun e w'=>∃ u1 u2 u3,e= .returned (.agg #[.string P.nm,.int .i64 P.a,.int .i64 P.b,.int .i64 P.c,u1,u2,u3])∧OwnG w' w.heap.size P u1 u2 u3∧Below w.heap.size w w':=by
 have HCP:Hid (∀ (W:World) (u:Value) (L:List Dp),DepsAt W u L→SmD L→Calls Tryz.prog 84 #[u] W fun e w'=>∃ v',e= .returned v'∧∃ ps,OwnD w' W.heap.size v' ps∧ps.map (·.1)=L∧Below W.heap.size W w'):=fun W u L hu hl=>BD hu hl
 have HSC:Hid (∀ (s:ByteArray) (W:World),s.size≤1000000→Calls Tryz.prog 78 #[.string s] W fun e w'=>e= .returned (.string s)∧Below W.heap.size W w'):=fun s W hs=>eM s (by omega) W
 have HH:=aA h;have HZ:=aA hz;obtain ⟨⟨b1,e1,rfl,_⟩,⟨b2,e2,rfl,_⟩,b3,e3,rfl,_⟩:=h;have HKD:Hid (KeepP fun W=>(Below w.heap.size w W∧PgAt W P (.slice b1 P.d.length e1) (.slice b2 P.p.length e2) (.slice b3 P.o.length e3))∧(BxP W w.heap.size P.nm P.a P.b P.c (.slice b1 P.d.length e1) (.slice b2 P.p.length e2) (.slice b3 P.o.length e3)∧BxPF W (w.heap.size+1) ⟨#[]⟩ 0 0 0 (.slice none 0 0) (.slice none 0 0) (.slice none 0 0))):=fun a b hx hab=>⟨⟨aB hx.1.1 hab,⟨hx.1.2.1.below hab,hx.1.2.2.1.below hab,hx.1.2.2.2.below hab⟩⟩,bF _ _ _ _ _ _ _ _ _ _ hx.2.1 hab,cV _ _ _ _ _ _ _ _ _ _ hx.2.2 hab⟩
 have HO1:Hid ((Below w.heap.size w ((w.alloc (.cells #[.string P.nm,.int .i64 P.a,.int .i64 P.b,.int .i64 P.c,.slice b1 P.d.length e1,.slice b2 P.p.length e2,.slice b3 P.o.length e3] 34)).alloc (.cells #[.string ⟨#[]⟩,.int .i64 0,.int .i64 0,.int .i64 0,.slice none 0 0,.slice none 0 0,.slice none 0 0] 34)).drew∧PgAt ((w.alloc (.cells #[.string P.nm,.int .i64 P.a,.int .i64 P.b,.int .i64 P.c,.slice b1 P.d.length e1,.slice b2 P.p.length e2,.slice b3 P.o.length e3] 34)).alloc (.cells #[.string ⟨#[]⟩,.int .i64 0,.int .i64 0,.int .i64 0,.slice none 0 0,.slice none 0 0,.slice none 0 0] 34)).drew P (.slice b1 P.d.length e1) (.slice b2 P.p.length e2) (.slice b3 P.o.length e3))∧(BxP ((w.alloc (.cells #[.string P.nm,.int .i64 P.a,.int .i64 P.b,.int .i64 P.c,.slice b1 P.d.length e1,.slice b2 P.p.length e2,.slice b3 P.o.length e3] 34)).alloc (.cells #[.string ⟨#[]⟩,.int .i64 0,.int .i64 0,.int .i64 0,.slice none 0 0,.slice none 0 0,.slice none 0 0] 34)).drew w.heap.size P.nm P.a P.b P.c (.slice b1 P.d.length e1) (.slice b2 P.p.length e2) (.slice b3 P.o.length e3)∧BxPF ((w.alloc (.cells #[.string P.nm,.int .i64 P.a,.int .i64 P.b,.int .i64 P.c,.slice b1 P.d.length e1,.slice b2 P.p.length e2,.slice b3 P.o.length e3] 34)).alloc (.cells #[.string ⟨#[]⟩,.int .i64 0,.int .i64 0,.int .i64 0,.slice none 0 0,.slice none 0 0,.slice none 0 0] 34)).drew (w.heap.size+1) ⟨#[]⟩ 0 0 0 (.slice none 0 0) (.slice none 0 0) (.slice none 0 0))):=by
  refine HKD.out ((w.alloc (.cells #[.string P.nm,.int .i64 P.a,.int .i64 P.b,.int .i64 P.c,.slice b1 P.d.length e1,.slice b2 P.p.length e2,.slice b3 P.o.length e3] 34)).alloc (.cells #[.string ⟨#[]⟩,.int .i64 0,.int .i64 0,.int .i64 0,.slice none 0 0,.slice none 0 0,.slice none 0 0] 34)) _ ?_ (Below.refl _ _).drew;have hb:=aR w (.cells #[.string P.nm,.int .i64 P.a,.int .i64 P.b,.int .i64 P.c,.slice b1 P.d.length e1,.slice b2 P.p.length e2,.slice b3 P.o.length e3] 34) (.cells #[.string ⟨#[]⟩,.int .i64 0,.int .i64 0,.int .i64 0,.slice none 0 0,.slice none 0 0,.slice none 0 0] 34);exact ⟨⟨hb,HH.out.1.below hb,HH.out.2.1.below hb,HH.out.2.2.below hb⟩,bF _ _ _ _ _ _ _ _ _ _ (BxP.new rfl _ _ _ _ _ _ _) (aD _ _),BxPF.new (by simp) _ _ _ _ _ _ _⟩
 have HOK:Hid (∀ w' x1 k1 y1 q1 x2 k2 y2 q2 x3 k3 y3 q3,OwnD w' w.heap.size (.slice x1 k1 y1) q1→q1.map (·.1)=P.d→OwnD w' w.heap.size (.slice x2 k2 y2) q2→q2.map (·.1)=P.p→OwnD w' w.heap.size (.slice x3 k3 y3) q3→q3.map (·.1)=P.o→Below w.heap.size w w'→∃ u1 u2 u3,Ending.returned (.agg #[.string P.nm,.int .i64 P.a,.int .i64 P.b,.int .i64 P.c,.slice x1 k1 y1,.slice x2 k2 y2,.slice x3 k3 y3])= .returned (.agg #[.string P.nm,.int .i64 P.a,.int .i64 P.b,.int .i64 P.c,u1,u2,u3])∧OwnG w' w.heap.size P u1 u2 u3∧Below w.heap.size w w'):=fun w' x1 k1 y1 q1 x2 k2 y2 q2 x3 k3 y3 q3 h1 h2 h3 h4 h5 h6 hb=>⟨_,_,_,rfl,⟨q1,q2,q3,⟨h1,h2⟩,⟨h3,h4⟩,h5,h6⟩,hb⟩
 have HBX:=HO1.out.2.1;obtain ⟨k0,k1,k2,k3,k4,k5,k6,_⟩:=HBX;clear hz
 go_enter Tryz.func44,Tryz.ntmps44
 go_wp2_with fail
 generalize ((w.alloc (.cells #[.string P.nm,.int .i64 P.a,.int .i64 P.b,.int .i64 P.c,.slice b1 P.d.length e1,.slice b2 P.p.length e2,.slice b3 P.o.length e3] 34)).alloc (.cells #[.string ⟨#[]⟩,.int .i64 0,.int .i64 0,.int .i64 0,.slice none 0 0,.slice none 0 0,.slice none 0 0] 34))=W1 at*
 go_region_held3 (fun w'=>w'.cell? ⟨w.heap.size,0,none⟩=some (.string P.nm)∧w'.cell? ⟨w.heap.size,1,none⟩=some (.int .i64 P.a)∧w'.cell? ⟨w.heap.size,2,none⟩=some (.int .i64 P.b)∧w'.cell? ⟨w.heap.size,3,none⟩=some (.int .i64 P.c)∧w'.cell? ⟨w.heap.size,4,none⟩=some (.slice b1 P.d.length e1)∧w'.cell? ⟨w.heap.size,5,none⟩=some (.slice b2 P.p.length e2)∧w'.cell? ⟨w.heap.size,6,none⟩=some (.slice b3 P.o.length e3)) (go_keep) (first
  |(go_at_call 78;refine (HSC.out _ _ HZ.out.1).mono ?_;rintro e w2 ⟨rfl,hb⟩;have HO2:=aA (HKD.out _ _ HO1.out hb);obtain ⟨k0,k1,k2,k3,k4,k5,k6,_⟩:=HO2.out.2.1;clear hb)
  |(go_at_call 84;refine (HCP.out _ _ _ HO4.out.1.2.2.2 HZ.out.2.2.2).mono ?_;rintro e w5 ⟨u3,rfl,q3,ho,hq3,hb⟩;have HO5:=aA (HKD.out _ _ HO4.out hb);have HQ1:=aA (HQ1.out.below hb);have HQ2:=aA (HQ2.out.below hb);have HQ3:Hid (OwnD w5 (w.heap.size+2) u3 q3):=ho.base (Nat.succ_le_of_lt HO4.out.2.2.1.2.2.2.2.2.2.2);have HM3:=aA hq3;obtain ⟨x3,y3,rfl⟩:=ho.len;obtain ⟨k0,k1,k2,k3,k4,k5,k6,_⟩:=HO5.out.2.1;obtain ⟨⟨r0,r1,r2,r3,r4,r5,r6,r7⟩,hfz⟩:=HO5.out.2.2;have f0:=hfz 0 (by decide);have f1:=hfz 1 (by decide);have f2:=hfz 2 (by decide);have f3:=hfz 3 (by decide);have f4:=hfz 4 (by decide);have f5:=hfz 5 (by decide);have f6:=hfz 6 (by decide);clear hfz;have s7:=fun u0 u1 u2 u3 u4 u5 u6=>ET r0 r1 r2 r3 r4 r5 r6 u0 u1 u2 u3 u4 u5 u6;clear ho hb hq3)
  |(go_at_call 84;refine (HCP.out _ _ _ HO3.out.1.2.2.1 HZ.out.2.2.1).mono ?_;rintro e w4 ⟨u2,rfl,q2,ho,hq2,hb⟩;have HO4:=aA (HKD.out _ _ HO3.out hb);have HQ1:=aA (HQ1.out.below hb);have HQ2:Hid (OwnD w4 (w.heap.size+2) u2 q2):=ho.base (Nat.succ_le_of_lt HO3.out.2.2.1.2.2.2.2.2.2.2);have HM2:=aA hq2;obtain ⟨x2,y2,rfl⟩:=ho.len;obtain ⟨k0,k1,k2,k3,k4,k5,k6,_⟩:=HO4.out.2.1;clear ho hb hq2)
  |(go_at_call 84;refine (HCP.out _ _ _ HO2.out.1.2.1 HZ.out.2.1).mono ?_;rintro e w3 ⟨u1,rfl,q1,ho,hq1,hb⟩;have HO3:=aA (HKD.out _ _ HO2.out hb);have HQ1:Hid (OwnD w3 (w.heap.size+2) u1 q1):=ho.base (Nat.succ_le_of_lt HO2.out.2.2.1.2.2.2.2.2.2.2);have HM1:=aA hq1;obtain ⟨x1,y1,rfl⟩:=ho.len;obtain ⟨k0,k1,k2,k3,k4,k5,k6,_⟩:=HO3.out.2.1;clear ho hb hq1))
 all_goals go_wp2
 all_goals try simp only [Exit.inBlock,Exit.then]
 all_goals refine bodyPost_ret (by simp [results,Tryz.results44,s7,go_sem];try rfl) rfl ?_
 all_goals exact HOK.out _ _ _ _ q1 _ _ _ q2 _ _ _ q3 ((HQ1.out.of fun g hg _=>pR (by omega)).base (by omega)) HM1.out ((HQ2.out.of fun g hg _=>pR (by omega)).base (by omega)) HM2.out ((HQ3.out.of fun g hg _=>pR (by omega)).base (by omega)) HM3.out (dM (by omega) HO5.out.1.1)
theorem mG {s:ByteArray} {a b c:Int} {v1 v2 v3:Value} {w:World} (ha:∃ ad n cap,v1= .slice ad n cap) (hb:∃ ad n cap,v2= .slice ad n cap) (hc:∃ ad n cap,v3= .slice ad n cap):Calls Tryz.prog 43 #[.agg #[.string s,.int .i64 a,.int .i64 b,.int .i64 c,v1,v2,v3]] w fun e w'=>e= .returned (.agg #[.string s,.int .i64 a,.int .i64 b,.int .i64 c])∧Below w.heap.size w w':=by
 obtain ⟨a1,n1,c1,rfl⟩:=ha;obtain ⟨a2,n2,c2,rfl⟩:=hb;obtain ⟨a3,n3,c3,rfl⟩:=hc;have HB:Hid (Below w.heap.size w ((w.alloc (.cells #[.string s,.int .i64 a,.int .i64 b,.int .i64 c,.slice a1 n1 c1,.slice a2 n2 c2,.slice a3 n3 c3] 34)).alloc (.cells #[.string s,.int .i64 a,.int .i64 b,.int .i64 c] 80))):=aR _ _ _
 go_enter Tryz.func43,Tryz.ntmps43
 go_wp2
 try simp only [Exit.inBlock,Exit.then]
 refine bodyPost_ret (by simp [results,Tryz.results43,go_sem];try rfl) rfl ?_;exact ⟨rfl,HB.out⟩
theorem yW (w:World):Calls Tryz.prog 9 #[] w fun e w'=>e= .returned (.pointer (some ⟨w.heap.size+1,0,none⟩))∧w'=(w.alloc (.map #[] 0)).alloc (.cells #[.map (some w.heap.size)] 83):=by
 have hmm:= @run_makeMap Tryz.prog
 go_enter Tryz.func9,Tryz.ntmps9
 go_wp2
 go_ret;exact ⟨rfl,rfl⟩
end Go.Proofs.YtpfemjlhklnfoaaGreatDoor
namespace Go.Proofs.YtpfemjlhklnfoaaGreatDoor.Sc
open Go.RowKit
set_option maxRecDepth 100000
def ltB (b:UInt8):Bool:=decide (97≤b.toNat)&&decide (b.toNat≤122)
def dgB (b:UInt8):Bool:=decide (48≤b.toNat)&&decide (b.toNat≤57)
def nmB (b:UInt8):Bool:=ltB b||dgB b||decide (b.toNat=45)
theorem nK (b:UInt8) (w:World):Calls Tryz.prog 211 #[.int .u8 (b.toNat:Int)] w fun e w'=>e= .returned (.bool (ltB b))∧w'=w:=by
 go_enter Tryz.func211,Tryz.ntmps211
 go_wp2
 all_goals
  go_ret;refine ⟨aC ?_,rfl⟩;rw [Bool.eq_iff_iff];simp [ltB];omega
theorem BE (b:UInt8) (w:World):Calls Tryz.prog 212 #[.int .u8 (b.toNat:Int)] w fun e w'=>e= .returned (.bool (dgB b))∧w'=w:=by
 go_enter Tryz.func212,Tryz.ntmps212
 go_wp2
 all_goals
  go_ret;refine ⟨aC ?_,rfl⟩;rw [Bool.eq_iff_iff];simp [dgB];omega
def pS:Bs→Bool
 |[]=>false
 |b::_=>ltB b
def aQ (t:Bs):Bool:=pS t&&t.all nmB&&decide (t.length≤16)
theorem nL {p:ByteArray}:p.toList.isEmpty=p.data.toList.isEmpty:=by rw [ByteArray.toList_eq]
theorem lU {t:Bs} (h:t.isEmpty=true):aQ t=false:=by cases t<;>simp_all [aQ,pS]
theorem rO {s:ByteArray} (h:0<s.size):pS s.data.toList=ltB s[0]:=by
 have:s.data.toList=s[0]::s.data.toList.drop 1:=by
  have:=List.drop_eq_getElem_cons (l:=s.data.toList) (i:=0) (by rw [aX];exact h)
  rw [List.drop_zero] at this;exact this
 rw [this];rfl
theorem tO {s:ByteArray} (h:s.toList.isEmpty=false):0<s.size:=by
 rw [nL] at h;rw [←aX];cases hs:s.data.toList with
 |nil=>rw [hs] at h;cases h
 |cons _ _=>simp
theorem yX {s:ByteArray} {k:Nat} (hk:k<s.size) {f:UInt8→Bool} (h:f s[k]=false):s.data.toList.all f=false:=by
 rw [Bool.eq_false_iff];intro ha;rw [List.all_eq_true] at ha
 have:=ha s[k] (List.getElem_mem (l:=s.data.toList) (n:=k) (by rw [aX];exact hk))
 rw [h] at this;cases this
theorem gQ {s:ByteArray} {k:Nat} (hk:k<s.size) {f:UInt8→Bool} (h:(s.data.toList.take k).all f=true) (hb:f s[k]=true):(s.data.toList.take (k+1)).all f=true:=by
 rw [List.take_succ_eq_append_getElem (by rw [aX];exact hk),List.all_append,h];simp only [List.all_cons,List.all_nil,Bool.and_true,Bool.true_and];exact hb
theorem yY {s:ByteArray} {f:UInt8→Bool} (h:(s.data.toList.take s.size).all f=true):s.data.toList.all f=true:=by
 rw [List.take_of_length_le (by rw [aX];exact Nat.le_refl _)] at h;exact h
set_option maxHeartbeats 3200000 in
theorem jW (s:ByteArray) (w:World):Calls Tryz.prog 162 #[.string s] w fun e w'=>e= .returned (.bool (aQ s.data.toList))∧w'=w:=by
 cases he:s.toList.isEmpty
 · have h0:=tO he
   by_cases h16:s.size≤16
   · have HH:=aA (rO h0)
     have HL:=aA (nK s[0]);cases hl:ltB s[0]
     · have HR:Hid (aQ s.data.toList=false):=by unfold Hid aQ;rw [HH.out,hl];rfl
       rw [hl] at HL;clear hl
       go_enter Tryz.func162,Tryz.ntmps162
       go_wp2_with (go_at_call 211;refine (HL.out _).mono ?_;rintro e w1 ⟨rfl,hw1⟩;subst hw1)
       go_ret;exact ⟨aC HR.out.symm,rfl⟩
     · rw [hl] at HL HH
       clear hl;have HLT:Hid (∀ b:UInt8,∀ w1,Calls Tryz.prog 211 #[.int .u8 (b.toNat:Int)] w1 fun e w'=>e= .returned (.bool (ltB b))∧w'=w1):=nK;have HDG:Hid (∀ b:UInt8,∀ w1,Calls Tryz.prog 212 #[.int .u8 (b.toNat:Int)] w1 fun e w'=>e= .returned (.bool (dgB b))∧w'=w1):=BE
       go_enter Tryz.func162,Tryz.ntmps162
       go_wp2_with (go_at_call 211;refine (HL.out _).mono ?_;rintro e w1 ⟨rfl,hw1⟩;subst hw1;clear HL)
       go_loop [19] (fun i=>∃ k:Nat,k≤s.size∧i= .int .i64 k∧(s.data.toList.take k).all nmB=true) (fun i=>s.size - (intOf i).toNat)
       case atStart=>exact ⟨0,Nat.zero_le _,rfl,rfl⟩
       case round=>
        obtain ⟨k,hk,rfl,hal⟩:=hrel;have HA:=aA hal;clear hal
        by_cases hlt:k<s.size
        · have HLk:=aA (HLT.out s[k])
          have HDk:=aA (HDG.out s[k]);cases h1:ltB s[k]
          · cases h2:dgB s[k]
            · by_cases h3:s[k].toNat=45
              · have hn:nmB s[k]=true:=by unfold nmB;rw [h1,h2,decide_eq_true h3];rfl
                have HA2:=aA (gQ hlt HA.out hn);have e3:((s[k].toNat:Int)==45)=true:=by rw [beq_iff_eq];omega
                rw [h1] at HLk;rw [h2] at HDk;clear h1 h2 h3 hn
                go_wp2_with (first|(go_at_call 211;refine (HLk.out _).mono ?_;rintro e w1 ⟨rfl,hw1⟩;subst hw1)|(go_at_call 212;refine (HDk.out _).mono ?_;rintro e w1 ⟨rfl,hw1⟩;subst hw1))
                exact ⟨⟨k+1,by omega,by go_num,HA2.out⟩,by simp [intOf];omega⟩
              · have hn:nmB s[k]=false:=by unfold nmB;rw [h1,h2,decide_eq_false h3];rfl
                have HR:Hid (aQ s.data.toList=false):=by unfold Hid aQ;rw [yX hlt hn];simp
                have e3:((s[k].toNat:Int)==45)=false:=by rw [beq_eq_false_iff_ne];omega
                rw [h1] at HLk;rw [h2] at HDk;clear h1 h2 h3 hn
                go_wp2_with (first|(go_at_call 211;refine (HLk.out _).mono ?_;rintro e w1 ⟨rfl,hw1⟩;subst hw1)|(go_at_call 212;refine (HDk.out _).mono ?_;rintro e w1 ⟨rfl,hw1⟩;subst hw1))
                go_ret;exact ⟨aC HR.out.symm,rfl⟩
            · have hn:nmB s[k]=true:=by unfold nmB;rw [h1,h2];rfl
              have HA2:=aA (gQ hlt HA.out hn);rw [h1] at HLk;rw [h2] at HDk;clear h1 h2 hn
              go_wp2_with (first|(go_at_call 211;refine (HLk.out _).mono ?_;rintro e w1 ⟨rfl,hw1⟩;subst hw1)|(go_at_call 212;refine (HDk.out _).mono ?_;rintro e w1 ⟨rfl,hw1⟩;subst hw1))
              exact ⟨⟨k+1,by omega,by go_num,HA2.out⟩,by simp [intOf];omega⟩
          · have hn:nmB s[k]=true:=by unfold nmB;rw [h1];rfl
            have HA2:=aA (gQ hlt HA.out hn);rw [h1] at HLk;clear h1 hn
            go_wp2_with (go_at_call 211;refine (HLk.out _).mono ?_;rintro e w1 ⟨rfl,hw1⟩;subst hw1)
            exact ⟨⟨k+1,by omega,by go_num,HA2.out⟩,by simp [intOf];omega⟩
        · have hke:k=s.size:=by omega
          subst hke;have HR:Hid (aQ s.data.toList=true):=by unfold Hid aQ;rw [HH.out,yY HA.out,aX,decide_eq_true h16];rfl
          go_wp2
          go_ret;exact ⟨aC HR.out.symm,rfl⟩
   · have HR:Hid (aQ s.data.toList=false):=by unfold Hid aQ;rw [aX,decide_eq_false h16];simp
     go_enter Tryz.func162,Tryz.ntmps162
     go_wp2
     go_ret;exact ⟨aC HR.out.symm,rfl⟩
 · have HR:Hid (aQ s.data.toList=false):=lU (by rw [←nL];exact he)
   go_enter Tryz.func162,Tryz.ntmps162
   go_wp2
   go_ret;exact ⟨aC HR.out.symm,rfl⟩
end Go.Proofs.YtpfemjlhklnfoaaGreatDoor.Sc
namespace Go.Proofs.YtpfemjlhklnfoaaGreatDoor
open Go.RowKit
set_option maxRecDepth 100000
def ltS (s t:ByteArray):Bool:=Op.bytesLess s.toList t.toList
def bX (q:Option ByteArray) (s:ByteArray):Bool:=Sc.aQ s.data.toList&&(match q with
 |none=>true
 |some p=>ltS p s)
def bS (L:List Sp):Bool:=decide (0<L.length)&&cJ L
def bW:Option ByteArray→List Dp→Bool
 |_,[]=>true
 |q,d::r=>bX q d.nm&&bS d.rg&&bW (some d.nm) r
def aM (L:List Dp):Bool:=decide (L.length≤16)&&bW none L
def cP (L:List Dp):Option ByteArray:=L.getLast?.map (·.nm)
theorem DepsAt.len {w:World} {v:Value} {L:List Dp} (h:DepsAt w v L):∃ ad cap,v= .slice ad L.length cap∧L.length≤cap:=by
 obtain ⟨ad,cap,rfl,h,_⟩:=h;exact ⟨ad,cap,rfl,h⟩
theorem rP {v:Value} {L:List Sp} {w:World} (h:SpansAt w v L):
 Calls Tryz.prog 232 #[v] w fun e w'=>e= .returned (.bool (bS L))∧Below w.heap.size w w':=by
 have HM:=aA (mW h);obtain ⟨ad,cap,rfl⟩:=h.sl;clear h
 by_cases h0:0<L.length
 · have HR:Hid (bS L=cJ L):=by unfold Hid bS;simp [h0]
   go_enter Tryz.func232,Tryz.ntmps232
   go_wp2_with (go_at_call 96;refine HM.out.mono ?_;rintro e w1 ⟨rfl,ok⟩)
   go_ret;exact ⟨aC HR.out.symm,ok⟩
 · have HR:Hid (bS L=false):=by unfold Hid bS;simp [h0]
   go_enter Tryz.func232,Tryz.ntmps232
   go_wp2
   go_ret;exact ⟨aC HR.out.symm,Below.refl _ _⟩
theorem pB {va:Value} {A:List Dp} {w:World} (h:DepsAt w va A) (hl:A.length≤1000000000000) (s:ByteArray):
 Calls Tryz.prog 231 #[va,.string s] w fun e w'=>e= .returned (.bool (bX (cP A) s))∧w'=w:=by
 have HN:Hid (Calls Tryz.prog 162 #[.string s] w fun e w'=>e= .returned (.bool (Sc.aQ s.data.toList))∧w'=w):=Sc.jW s w;cases hn:Sc.aQ s.data.toList
 · have HR:Hid (bX (cP A) s=false):=by unfold Hid bX;rw [hn];rfl
   rw [hn] at HN;obtain ⟨ad,cap,rfl⟩:=h.sl;clear h
   go_enter Tryz.func231,Tryz.ntmps231
   go_wp2_with (go_at_call 162;refine HN.out.mono ?_;rintro e w1 ⟨rfl,rfl⟩)
   go_ret;exact ⟨aC HR.out.symm,rfl⟩
 · rw [hn] at HN
   rcases List.eq_nil_or_concat A with rfl|⟨B,d,rfl⟩
   · have HR:Hid (bX (cP []) s=true):=by unfold Hid bX;rw [hn];rfl
     obtain ⟨ad,cap,rfl⟩:=h.sl;clear h
     go_enter Tryz.func231,Tryz.ntmps231
     go_wp2_with (go_at_call 162;refine HN.out.mono ?_;rintro e w1 ⟨rfl,rfl⟩)
     go_ret;exact ⟨aC HR.out.symm,rfl⟩
   · have HR:Hid (bX (cP (B++[d])) s=Op.bytesLess d.nm.toList s.toList):=by unfold Hid bX cP;rw [hn];simp [ltS]
     rw [List.concat_eq_append] at*;obtain ⟨ad,cap,rfl,hc,hs⟩:=h
     rcases hs with hs|⟨g,o,rfl,hg,hs⟩
     · simp at hs
     · obtain ⟨u,c0,hrest⟩:=hs B.length (by simp)
       clear hrest hs;simp only [List.getElem_concat_length] at c0;have hlen:(B++[d]).length=B.length+1:=by simp
       rw [hlen] at hl hc ⊢;generalize B.length=m at*;have w1:IntKind.i64.wrap (((m+1:Nat):Int) - 1)=(m:Int):=by rw [IntKind.wrap_i64];omega
       go_enter Tryz.func231,Tryz.ntmps231
       go_wp2_with (go_at_call 162;refine HN.out.mono ?_;rintro e w1 ⟨rfl,rfl⟩)
       go_ret;exact ⟨aC HR.out.symm,rfl⟩
theorem DepsAt.take {w:World} {ad:Option Addr} {cap:Nat} {L:List Dp} (h:DepsAt w (.slice ad L.length cap) L) {k:Nat} (hk:k≤L.length):DepsAt w (.slice ad k cap) (L.take k):=by
 obtain ⟨ad',cap',e,hc,hs⟩:=h;cases e;refine ⟨ad,cap,by simp [Nat.min_eq_left hk],by simp;omega,?_⟩
 rcases hs with rfl|⟨g,o,rfl,hg,hs⟩
 · exact Or.inl (by simp)
 · refine Or.inr ⟨g,o,rfl,hg,fun i hi=> ?_⟩
   have hi':i<L.length:=by simp at hi;omega
   obtain ⟨u,hu⟩:=hs i hi';exact ⟨u,by simpa using hu⟩
theorem gD {L:List Dp} {k:Nat} (h:k<L.length):cP (L.take (k+1))=some L[k].nm:=by
 unfold cP;rw [List.take_succ_eq_append_getElem h,List.getLast?_concat];rfl
def KM (w:World) (N:Nat) (s:ByteArray) (u:Value) (d:Dp) (va:Value) (A:List Dp) (w1:World):Prop:=Below w.heap.size w w1∧BxD w1 N s u∧SpansAt w1 u d.rg∧DepsAt w1 va A
theorem ML (w:World) (N:Nat) (s:ByteArray) (u:Value) (d:Dp) (va:Value) (A:List Dp):KeepP (KM w N s u d va A):=(aG w).and ((JN _ _ _).and ((AQ _ _).and (EM _ _)))
set_option maxHeartbeats 3200000 in
theorem rQ (L:List Dp) (hlen:L.length≤16) (g o cap:Nat) (w:World) (h:DepsAt w (.slice (some ⟨g,o,none⟩) L.length cap) L) (hs:∀ i (h:i<L.length),∃ u,DpIn w g (o+i*2) L[i] u):
 Calls Tryz.prog 197 #[.slice (some ⟨g,o,none⟩) L.length cap] w fun e w'=>e= .returned (.bool (aM L))∧Below w.heap.size w w':=by
 have HL:Hid (∀ w1,Below w.heap.size w w1→∀ i (h:i<L.length),∃ u,DpIn w1 g (o+i*2) L[i] u):=fun w1 hb i hi=>(hs i hi).imp fun u h=>h.below hb
 have HD:Hid (∀ w1,Below w.heap.size w w1→∀ k,k≤L.length→DepsAt w1 (.slice (some ⟨g,o,none⟩) k cap) (L.take k)):=fun w1 hb k hk=>(h.below hb).take hk
 have HT:Hid (aM L=bW none L):=by unfold Hid aM;simp [hlen]
 have hcap:L.length≤cap:=by obtain ⟨_,_,e,hc,_⟩:=h;cases e;exact hc
 have h16:decide ((16:Int)<(L.length:Int))=false:=decide_eq_false (by omega);clear h hs
 go_enter Tryz.func197,Tryz.ntmps197
 go_wp2_with fail
 go_loopw [10] (fun i wr=>∃ k:Nat,k≤L.length∧i= .int .i64 k∧Below w.heap.size w wr∧bW none L=bW (cP (L.take k)) (L.drop k)) (fun i _=>L.length - (intOf i).toNat)
 case atStart=>exact ⟨0,Nat.zero_le _,rfl,Below.refl _ _,rfl⟩
 case round=>
  obtain ⟨k,hk,rfl,hb,hall⟩:=hrel;have HALL:=aA hall;have HB:=aA hb;clear hall
  by_cases hlt:k<L.length
  · obtain ⟨u,c0,c1,⟨⟨hu,_⟩,_⟩,cg⟩:=HL.out wr hb k hlt
    have hd:=HD.out wr hb k hk;have hkc:(k:Int)≤(cap:Int):=by omega
    have hc0:¬ (cap=0):=by omega
    obtain ⟨ad,uc,rfl⟩:=hu.sl;have hdr:L.drop k=L[k]::L.drop (k+1):=List.drop_eq_getElem_cons hlt
    have HST:Hid (bW none L=(bX (cP (L.take k)) L[k].nm&&bS L[k].rg&&bW (cP (L.take (k+1))) (L.drop (k+1)))):=by
     unfold Hid;rw [HALL.out,hdr,gD hlt];rfl
    have HO:Hid (KM w wr.heap.size L[k].nm (.slice ad L[k].rg.length uc) L[k] (.slice (some ⟨g,o,none⟩) k cap) (L.take k) (wr.alloc (.cells #[.string L[k].nm,.slice ad L[k].rg.length uc] 89))):=⟨aB hb (aD _ _),BxD.new rfl _ _,hu.below (aD _ _),hd.below (aD _ _)⟩;have HK:Hid (KeepP (KM w wr.heap.size L[k].nm (.slice ad L[k].rg.length uc) L[k] (.slice (some ⟨g,o,none⟩) k cap) (L.take k))):=ML _ _ _ _ _ _ _;have HF:Hid (∀ w1,KM w wr.heap.size L[k].nm (.slice ad L[k].rg.length uc) L[k] (.slice (some ⟨g,o,none⟩) k cap) (L.take k) w1→Calls Tryz.prog 231 #[.slice (some ⟨g,o,none⟩) k cap,.string L[k].nm] w1 fun e w'=>e= .returned (.bool (bX (cP (L.take k)) L[k].nm))∧Below w1.heap.size w1 w'):=fun w1 hk1=>(pB hk1.2.2.2 (by simp;omega) _).mono fun e w' ⟨h1,h2⟩=>⟨h1,by rw [h2];exact Below.refl _ _⟩
    have HG:Hid (∀ w1,KM w wr.heap.size L[k].nm (.slice ad L[k].rg.length uc) L[k] (.slice (some ⟨g,o,none⟩) k cap) (L.take k) w1→Calls Tryz.prog 232 #[.slice ad L[k].rg.length uc] w1 fun e w'=>e= .returned (.bool (bS L[k].rg))∧Below w1.heap.size w1 w'):=fun w1 hk1=>rP hk1.2.2.1
    clear hu hd hdr HALL hb;generalize bX (cP (L.take k)) L[k].nm=bf at*;generalize bS L[k].rg=bg at*;generalize L[k].rg.length=n at*;generalize L[k].nm=s at*;generalize L[k]=d at*;cases bf
    · have HR:Hid (aM L=false):=by unfold Hid;rw [HT.out,HST.out];rfl
      clear HST HG
      go_wp2_with fail
      refine bA HK (by kernel_rfl) (by kernel_rfl) (by first|exact HO.out|exact HK.out.drew HO.out) ?_;intro C HIN HOUT;clear HO
      repeat
       (with_reducible refine wpQuiet_step (fun K hK=> ?_)
        go_simp
        first
         |(refine hK _ ?_;clear hK K)
         |(apply Exists.intro;refine ⟨fun w1 hC=> ?_,hK _ ?_⟩;(focus ((first|(go_at_call 231;with_reducible exact cI HIN HOUT HK HF.out w1 hC)|(exact rfl)|(obtain ⟨hb1,⟨k0,k1,k2⟩,hs1,hd1⟩:=HOUT.out w1 hC;clear hC;go_simp;first|done|exact rfl));done));clear hK K))
      refine wpQuiet_nil ?_;intro wn hC;have HO:=aA (HOUT.out _ hC);clear hC HIN HOUT C;obtain ⟨hb1,⟨k0,k1,k2⟩,hs1,hd1⟩:=HO.out
      go_wp2
      go_ret;exact ⟨aC HR.out.symm,HO.out.1⟩
    · cases bg
      · have HR:Hid (aM L=false):=by unfold Hid;rw [HT.out,HST.out];rfl
        clear HST
        go_wp2_with fail
        refine bA HK (by kernel_rfl) (by kernel_rfl) (by first|exact HO.out|exact HK.out.drew HO.out) ?_;intro C HIN HOUT;clear HO
        repeat
         (with_reducible refine wpQuiet_step (fun K hK=> ?_)
          go_simp
          first
           |(refine hK _ ?_;clear hK K)
           |(apply Exists.intro;refine ⟨fun w1 hC=> ?_,hK _ ?_⟩;(focus ((first|(go_at_call 231;with_reducible exact cI HIN HOUT HK HF.out w1 hC)|(go_at_call 232;with_reducible exact cI HIN HOUT HK HG.out w1 hC)|(exact rfl)|(obtain ⟨hb1,⟨k0,k1,k2⟩,hs1,hd1⟩:=HOUT.out w1 hC;clear hC;go_simp;first|done|exact rfl));done));clear hK K))
        refine wpQuiet_nil ?_;intro wn hC;have HO:=aA (HOUT.out _ hC);clear hC HIN HOUT C;obtain ⟨hb1,⟨k0,k1,k2⟩,hs1,hd1⟩:=HO.out
        go_wp2
        go_ret;exact ⟨aC HR.out.symm,HO.out.1⟩
      · have HR:Hid (bW none L=bW (cP (L.take (k+1))) (L.drop (k+1))):=by unfold Hid;rw [HST.out];rfl
        clear HST
        go_wp2_with fail
        refine bA HK (by kernel_rfl) (by kernel_rfl) (by first|exact HO.out|exact HK.out.drew HO.out) ?_;intro C HIN HOUT;clear HO
        repeat
         (with_reducible refine wpQuiet_step (fun K hK=> ?_)
          go_simp
          first
           |(refine hK _ ?_;clear hK K)
           |(apply Exists.intro;refine ⟨fun w1 hC=> ?_,hK _ ?_⟩;(focus ((first|(go_at_call 231;with_reducible exact cI HIN HOUT HK HF.out w1 hC)|(go_at_call 232;with_reducible exact cI HIN HOUT HK HG.out w1 hC)|(exact rfl)|(obtain ⟨hb1,⟨k0,k1,k2⟩,hs1,hd1⟩:=HOUT.out w1 hC;clear hC;go_simp;first|done|exact rfl));done));clear hK K))
        refine wpQuiet_nil ?_;intro wn hC;have HO:=aA (HOUT.out _ hC);clear hC HIN HOUT C;obtain ⟨hb1,⟨k0,k1,k2⟩,hs1,hd1⟩:=HO.out
        go_wp2
        exact ⟨⟨k+1,by omega,by go_num,HO.out.1,HR.out⟩,by simp [intOf];omega⟩
  · have hke:k=L.length:=by omega
    subst hke;have HR:Hid (aM L=true):=by unfold Hid;rw [HT.out,HALL.out];simp [bW]
    clear hb
    go_wp2
    go_ret;exact ⟨aC HR.out.symm,HB.out⟩
theorem rR (ad:Option Addr) (n cap:Nat) (h:16<n) (w:World):
 Calls Tryz.prog 197 #[.slice ad n cap] w fun e w'=>e= .returned (.bool false)∧Below w.heap.size w w':=by
 have hn:(16:Int)<(n:Int):=by omega
 go_enter Tryz.func197,Tryz.ntmps197
 go_wp2
 go_ret;exact ⟨rfl,Below.refl _ _⟩
theorem tP (ad:Option Addr) (cap:Nat) (w:World):
 Calls Tryz.prog 197 #[.slice ad 0 cap] w fun e w'=>e= .returned (.bool true)∧Below w.heap.size w w':=by
 go_enter Tryz.func197,Tryz.ntmps197
 go_wp2_with fail
 go_loop [10] (fun i=>i= .int .i64 0) (fun _=>0)
 case atStart=>rfl
 case round=>
  subst hrel
  go_wp2
  go_ret;exact ⟨rfl,Below.refl _ _⟩
theorem cX {v:Value} {L:List Dp} {w:World} (h:DepsAt w v L):
 Calls Tryz.prog 197 #[v] w fun e w'=>e= .returned (.bool (aM L))∧Below w.heap.size w w':=by
 have h':=h;obtain ⟨ad,cap,rfl,hc,hs⟩:=h'
 by_cases h16:L.length≤16
 · rcases hs with rfl|⟨g,o,rfl,hg,hs⟩
   · exact tP _ _ w
   · exact rQ L h16 g o cap w h hs
 · have:aM L=false:=by unfold aM;simp [h16]
   rw [this];exact rR _ _ _ (by omega) w
end Go.Proofs.YtpfemjlhklnfoaaGreatDoor
