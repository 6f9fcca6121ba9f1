/- Rd3, Mf4, Mf5, Mf5b, Sm1: their declarations that are needed, laid in one text, remarks and blanks left out. -/
import Derived.Deep.CutRange
import Derived.Test.YtmnhnofnlcbliaaGreatDoorMg21
namespace Go.Proofs.YtmnhnofnlcbliaaGreatDoor
open Go.RowKit
set_option maxRecDepth 100000
def nL (ln:List Sc.Bs):Prop:=ln.length≤5000∧(Lib.join (ln.drop 2) [32]).length≤5000
def ReadQ (w:World) (R:Int×List (List Dp)) (e:Ending) (w':World):Prop:=∃ v,e= .returned (.tuple #[v,.int .i64 R.1])∧Below w.heap.size w w'∧(R.1=0→∃ N rows,v= .slice (some ⟨N,0,none⟩) rows.length rows.length∧RD w' w.heap.size N rows∧cJ rows=R.2)∧(R.1≠0→v= .slice none 0 0)
theorem ReadQ.err {w w':World} {R:Int×List (List Dp)} {er:Int} (hR:R.1=er) (h0:er≠0) (hb:Below w.heap.size w w'):ReadQ w R (.returned (.tuple #[.slice none 0 0,.int .i64 er])) w':=by
 subst hR;exact ⟨_,rfl,hb,fun h=>absurd h h0,fun _=>rfl⟩
theorem dW {rows:List (Value×List (Dp×Value))} {k:Nat} (hk:k<rows.length):(cJ rows).getD k []=rows[k].2.map (·.1):=by
 unfold cJ;rw [List.getD_eq_getElem?_getD,List.getElem?_map,List.getElem?_eq_getElem hk];rfl
theorem NC {rows:List (Value×List (Dp×Value))} {k:Nat} (hk:k<rows.length) (v:Value) (d:Dp) (u:Value):cJ (rows.set k (v,rows[k].2++[(d,u)]))=(cJ rows).set k ((cJ rows).getD k []++[d]):=by
 rw [dW hk];unfold cJ;rw [List.map_set]
 simp
theorem IM {X:List Sc.Bs} {a:Nat} {acc:List (List Dp)} {ln:List Sc.Bs} {r:List (List Sc.Bs)} (h:ln.length<3):(aV X a acc (ln::r)).1=22:=by
 unfold aV;rw [if_pos h]
theorem ND {X:List Sc.Bs} {a:Nat} {acc:List (List Dp)} {ln:List Sc.Bs} {r:List (List Sc.Bs)} (h:¬ ln.length<3) (h2:fB X (ln.getD 0 [])<(a:Int)):(aV X a acc (ln::r)).1=22:=by
 unfold aV;rw [if_neg h,if_pos h2]
theorem UD {X:List Sc.Bs} {a:Nat} {acc:List (List Dp)} {ln:List Sc.Bs} {r:List (List Sc.Bs)} {k:Nat} (h:¬ ln.length<3) (h2:fB X (ln.getD 0 [])=(k:Int)) (h3:a≤k) {er:Int} (h4:oU (cU (acc.getD k [])) (Sc.ba (ln.getD 1 [])) (ln.drop 2)=er) (h0:er≠0):(aV X a acc (ln::r)).1=er:=by
 unfold aV;rw [if_neg h,h2,if_neg (by omega),Int.toNat_natCast,h4,if_neg h0]
theorem wV {X:List Sc.Bs} {a:Nat} {acc:List (List Dp)} {ln:List Sc.Bs} {r:List (List Sc.Bs)} {k:Nat} (h:¬ ln.length<3) (h2:fB X (ln.getD 0 [])=(k:Int)) (h3:a≤k) (h4:oU (cU (acc.getD k [])) (Sc.ba (ln.getD 1 [])) (ln.drop 2)=0):aV X a acc (ln::r)=aV X k (acc.set k (acc.getD k []++[mQ ln])) r:=by
 conv=>lhs;unfold aV
 rw [if_neg h,h2,if_neg (by omega),Int.toNat_natCast,if_pos h4]
theorem Gb {w:World} {N:Nat} {x y v:Value} {a:Addr} (h:a.block≠N) (hc:w.cell? a=some v):((w.setCell ⟨N,0,none⟩ x).setCell ⟨N,1,none⟩ y).cell? a=some v:=
 (World.cell?_setCell_other _ _ _ _ (fun e=>h (by rw [←e]))).trans ((World.cell?_setCell_other _ _ _ _ (fun e=>h (by rw [←e]))).trans hc)
set_option maxHeartbeats 6400000 in
theorem qO {X:List Sc.Bs} {Lns:List (List Sc.Bs)} {vl vx:Value} {w:World} (hl:Sc.LinesAt w vl Lns) (hx:Sc.WordsAt w vx X) (hX:X.length≤16) (hn:Lns.length≤5000) (hs:∀ ln ∈ Lns,nL ln) (he:Env w) (hf:FL w):
 Calls Tryz.prog 184 #[vl,vx] w (ReadQ w (aV X 0 (List.replicate X.length []) Lns)):=by
 have HIX:Hid (∀ w1 s,Below w.heap.size w w1→Calls Tryz.prog 223 #[vx,.string (Sc.ba s)] w1 fun e w'=>e= .returned (.int .i64 (fB X s))∧w'=w1):=fun w1 s hb=>UB (hx.below hb) (by omega) s
 have HIL:=aB (CW X);have HRD:Hid (∀ w1 (n:ByteArray) vw va (ws:List Sc.Bs) (A:List Dp),Below w.heap.size w w1→Sc.WordsAt w1 vw ws→ws≠[]→ws.length≤5000→(Lib.join ws [32]).length≤5000→DepsAt w1 va A→A.length≤10000→Calls Tryz.prog 224 #[.string n,vw,va] w1 (DepQ w1 n ws (oU (cU A) n ws))):=fun w1 n vw va ws A hb h1 h2 h3 h4 h5 h6=>IL h1 h2 (by omega) (by omega) h5 (by omega) (he.below hb) (hf.below hb)
 have HLN:Hid (∀ w1,Below w.heap.size w w1→Sc.LinesAt w1 vl Lns):=fun w1 hb=>hl.below hb
 have HS:=aB hs;have HER:Hid (∀ er w',(aV X 0 (List.replicate X.length []) Lns).1=er→er≠0→Below w.heap.size w w'→ReadQ w (aV X 0 (List.replicate X.length []) Lns) (.returned (.tuple #[.slice none 0 0,.int .i64 er])) w'):=fun er w' h1 h2 h3=>ReadQ.err h1 h2 h3
 have HOK:Hid (∀ (rows:List (Value×List (Dp×Value))) w',rows.length=X.length→KX w w.heap.size rows w'→aV X 0 (List.replicate X.length []) Lns=(0,cJ rows)→ReadQ w (aV X 0 (List.replicate X.length []) Lns) (.returned (.tuple #[.slice (some ⟨w.heap.size,0,none⟩) X.length X.length,.int .i64 0])) w'):=fun rows w' h0 h1 h2=>by
  rw [h2];exact ⟨_,rfl,h1.1,fun _=>⟨w.heap.size,rows,by rw [h0],h1.2,rfl⟩,fun h=>absurd rfl h⟩
 obtain ⟨adl,capl,rfl,hcl,_⟩:=hl;obtain ⟨adx,capx,rfl,hcx,_⟩:=hx;obtain ⟨i0,hi,hz0,hz1,hz2⟩:=Sc.bK YR;clear hs he hf
 have HRF:Hid (aV X 0 (List.replicate X.length []) Lns=aV X 0 (cJ (List.replicate X.length (.slice none 0 0,[]))) (Lns.drop 0)):=by
  unfold Hid cJ;rw [List.map_replicate,List.drop_zero];rfl
 generalize hFR:aV X 0 (List.replicate X.length []) Lns=FR at*;clear hFR;generalize hQ:ReadQ w FR=RQ at*;clear hQ
 go_enter Tryz.func184,Tryz.ntmps184
 go_wp2_with (at_make;refine wpList_make_full _ rfl _ _ 154 rfl w.heap.size 22 i0 _ 1 Tryz.underlying154 hi hz0 hz1 .i64 .i64 _ _ X.length rfl rfl rfl rfl (by rw [hz2];omega) (by unfold maxLen;omega) (Nat.le_refl _) ?_;intro w1 hown1 hg1;have HK1:Hid (KX w w.heap.size (List.replicate X.length (.slice none 0 0,[])) w1):=⟨(Below.refl _ _).grown hg1 (Nat.le_refl _) (fun q hq=>by cases hq),RD.start (by rw [Nat.mul_one] at hown1;rw [show (Value.slice none 0 0).cells= #[Value.slice none 0 0] from rfl,toList_madeCells_one] at hown1;exact hown1)⟩;clear hown1 hg1)
 go_loopw [7,18] (fun va vi wr=>∃ (k a:Nat) (rows:List (Value×List (Dp×Value))),k≤Lns.length∧vi= .int .i64 k∧va= .int .i64 a∧rows.length=X.length∧(∀ r ∈ rows,r.2.length≤k)∧KX w w.heap.size rows wr∧FR=aV X a (cJ rows) (Lns.drop k)) (fun _ i _=>Lns.length - (intOf i).toNat)
 case atStart=>exact ⟨0,0,_,Nat.zero_le _,rfl,rfl,List.length_replicate ..,(fun r hr=>by obtain ⟨_,rfl⟩:=List.mem_replicate.1 hr;exact Nat.le_refl _),HK1.out,HRF.out⟩
 case round=>
  clear HK1 HRF;obtain ⟨k,a,rows,hk,rfl,rfl,hrl,hrk,hkx,hrf⟩:=hrel;have HKX:=aB hkx;have HRK:=aB hrk
  by_cases hlt:k<Lns.length
  · obtain ⟨ad2,cap2,e2,_,hcs⟩:=HLN.out wr hkx.1
    cases e2
    obtain ⟨gl,ol,rfl,hgl,hcs⟩:∃ g o,adl=some ⟨g,o,none⟩∧g<wr.heap.size∧∀ i (h:i<Lns.length),∃ u,wr.cell? ⟨g,o+i,none⟩=some u∧Sc.WordsAt wr u Lns[i]:=by
     rcases hcs with h|h
     · rw [h] at hlt;simp at hlt
     · exact h
    obtain ⟨u,cl,hwu⟩:=hcs k hlt;have hsl:=HS.out _ (List.getElem_mem hlt);rw [List.drop_eq_getElem_cons hlt] at hrf;clear hcs hrk hkx;obtain ⟨adu,capu,rfl,hcu,hwc⟩:=hwu;generalize Lns[k]=ln at*
    by_cases h3:ln.length<3
    · have HR:Hid (FR.1=22):=by unfold Hid;rw [hrf];exact IM h3
      have h3i:decide ((ln.length:Int)<3)=true:=decide_eq_true (by omega);clear hrf hwc hsl
      go_wp2
      exact HER.out 22 _ HR.out (by decide) HKX.out.1
    · obtain ⟨p0,p1,rest,rfl⟩:∃ p0 p1 rest,ln=p0::p1::rest:=by
       match ln,h3 with
       |[],h=>exact absurd (by simp) h
       |[_],h=>exact absurd (by simp) h
       |p0::p1::rest,_=>exact ⟨_,_,_,rfl⟩
      have hrne:rest≠[]:=by
       intro e;subst e;exact h3 (by simp)
      obtain ⟨gw,ow,rfl,hgw,hwc⟩:∃ g o,adu=some ⟨g,o,none⟩∧g<wr.heap.size∧∀ i (h:i<(p0::p1::rest).length),wr.cell? ⟨g,o+i,none⟩=some (.string (Sc.ba (p0::p1::rest)[i])):=by
       rcases hwc with h|h
       · cases h
       · exact h
      have c0:wr.cell? ⟨gw,ow,none⟩=some (.string (Sc.ba p0)):=hwc 0 (by simp);have c1:wr.cell? ⟨gw,ow+1,none⟩=some (.string (Sc.ba p1)):=hwc 1 (by simp)
      have HWR:Hid (∀ w1,Below wr.heap.size wr w1→Sc.WordsAt w1 (.slice (some ⟨gw,ow+2,none⟩) rest.length (capu - 2)) rest):=fun w1 hb=>by
       refine Sc.WordsAt.below (w:=wr) ⟨_,_,rfl,by simp at hcu;omega,Or.inr ⟨gw,ow+2,rfl,hgw,fun i hi=> ?_⟩⟩ hb
       have:=hwc (i+2) (by simp;omega)
       simpa [Nat.add_assoc,Nat.add_comm 2 i] using this
      have hnl:(p0::p1::rest).length=rest.length+2:=rfl;rw [hnl] at hcu h3 cl;have h3i:decide ((rest.length:Int)+2<3)=false:=decide_eq_false (by omega);have hb0:(0:Int)<(rest.length:Int)+2:=by omega
      have hb1:(1:Int)<(rest.length:Int)+2:=by omega
      have hb2:(2:Int)≤(rest.length:Int)+2:=by omega
      have hb3:(rest.length:Int)+2≤(capu:Int):=by omega
      have hc2:¬ (capu=2):=by have:rest.length≠0:=fun e=>hrne (List.eq_nil_of_length_eq_zero e);omega
      have hrl0:0<rest.length:=Nat.pos_of_ne_zero fun e=>hrne (List.eq_nil_of_length_eq_zero e)
      have hix:=HIL.out p0;have HI0:Hid (∀ w1,Below w.heap.size w w1→Calls Tryz.prog 223 #[.slice adx X.length capx,.string (Sc.ba p0)] w1 fun e w'=>e= .returned (.int .i64 (fB X p0))∧w'=w1):=fun w1 hb=>HIX.out w1 p0 hb
      clear hwc
      by_cases hia:fB X p0<(a:Int)
      · have HR:Hid (FR.1=22):=by unfold Hid;rw [hrf];exact ND (by simp;omega) hia
        clear hrf hsl;generalize fB X p0=ix at*
        go_wp2_with (go_at_call 223;refine (HI0.out _ HKX.out.1).mono ?_;rintro e w2 ⟨rfl,rfl⟩)
        exact HER.out 22 _ HR.out (by decide) HKX.out.1
      · obtain ⟨kk,hkk⟩:∃ kk:Nat,fB X p0=(kk:Int):=⟨(fB X p0).toNat,by omega⟩
        rw [hkk] at HI0 hix hia;have hak:a≤kk:=by omega
        have hkr:kk<rows.length:=by omega
        have hkX:(kk:Int)<(X.length:Int):=by omega
        have cN:wr.cell? ⟨w.heap.size,kk,none⟩=some rows[kk].1:=HKX.out.2.cell kk hkr;have HPG:=aB (dW hkr);have HDA:Hid (∀ w1,Below wr.heap.size wr w1→DepsAt w1 rows[kk].1 (rows[kk].2.map (·.1))):=fun w1 hb=>((HKX.out.2.2.1 _ (List.getElem_mem hkr)).at).below hb
        have hrkk:rows[kk].2.length≤5000:=Nat.le_trans (HRK.out _ (List.getElem_mem hkr)) (by omega);obtain ⟨adk,capk,hvk⟩:=(HKX.out.2.2.1 _ (List.getElem_mem hkr)).len;have HRD2:Hid (∀ w1,Below wr.heap.size wr w1→Calls Tryz.prog 224 #[.string (Sc.ba p1),.slice (some ⟨gw,ow+2,none⟩) rest.length (capu - 2),rows[kk].1] w1 (DepQ w1 (Sc.ba p1) rest (oU (cU (rows[kk].2.map (·.1))) (Sc.ba p1) rest))):=fun w1 hb=>HRD.out w1 _ _ _ _ _ (aA HKX.out.1 hb) (HWR.out w1 hb) hrne (by have:=hsl.1;simp at this;omega) hsl.2 (HDA.out w1 hb) (by rw [List.length_map];omega)
        have HVK:=aB hvk;rw [hvk] at cN HRD2;have gwb:=bY c0;have hNb:=HKX.out.2.size;have HFE:Hid (oU (cU (rows[kk].2.map (·.1))) (Sc.ba p1) rest≠0→FR.1=oU (cU (rows[kk].2.map (·.1))) (Sc.ba p1) rest):=fun her=>by rw [hrf];exact UD (k:=kk) (by simp;omega) hkk hak (by rw [HPG.out];rfl) her
        have HFS:Hid (oU (cU (rows[kk].2.map (·.1))) (Sc.ba p1) rest=0→∀ v u,FR=aV X kk (cJ (rows.set kk (v,rows[kk].2++[(mQ (p0::p1::rest),u)]))) (Lns.drop (k+1))):=fun her v u=>by rw [hrf,NC hkr];exact wV (k:=kk) (by simp;omega) hkk hak (by rw [HPG.out];exact her)
        have HLD:Hid ((mQ (p0::p1::rest)).nm=Sc.ba p1∧(mQ (p0::p1::rest)).rg=(nS (iL (jnT rest))).map spR):=⟨rfl,rfl⟩
        have HDQ:Hid (∀ w1 er e w',DepQ w1 (Sc.ba p1) rest er e w'→∃ nm ad len cap,e= .returned (.tuple #[.agg #[.string nm,.slice ad len cap],.int .i64 er])∧Below w1.heap.size w1 w'∧(er=0→nm=Sc.ba p1∧OwnS w' w1.heap.size (.slice ad len cap) (mQ (p0::p1::rest)).rg)):=fun w1 er e w' h=>by
         obtain ⟨nm,ad,len,cap,h1,h2,h3,_⟩:=h;exact ⟨nm,ad,len,cap,h1,h2,h3⟩
        clear hrf hsl HDA HWR HPG;have hgne:gw≠wr.heap.size:=by have:=gwb;simp only at this;omega
        have hNne:w.heap.size≠wr.heap.size:=by have:=hNb.2;omega
        generalize oU (cU (rows[kk].2.map (·.1))) (Sc.ba p1) rest=de at*;generalize mQ (p0::p1::rest)=LD at*
        go_upto_region 12 with (first|(go_at_call 223;refine (HI0.out _ HKX.out.1).mono ?_;rintro e w2 ⟨rfl,hw2⟩;obtain rfl:wr=w2:=hw2.symm))
        go_cut [7,11,12,18] from 18 to 60 (fun s7 s11 s12 s18 wx=>∃ M nm ad5 len5 cap5,s7= .int .i64 (kk:Int)∧s18= .int .i64 (k:Int)∧s12= .int .i64 de∧s11= .pointer (some ⟨M,0,none⟩)∧BxD wx M nm (.slice ad5 len5 cap5)∧Below wr.heap.size wr wx∧(de=0→nm=Sc.ba p1∧OwnS wx w.heap.size (.slice ad5 len5 cap5) LD.rg))
        case first=>
         go_region_held3 (fun w'=>w'.cell? ⟨gw,ow+1,none⟩=some (.string (Sc.ba p1))∧w'.cell? ⟨w.heap.size,kk,none⟩=some (.slice adk rows[kk].2.length capk)) (first|exact ⟨Gb hgne c1',Gb hNne cN'⟩|go_keep)
          (first
            |(go_at_call 224;refine (HRD2.out _ (Below.refl _ _).drew).mono ?_;rintro e w5 hdq;obtain ⟨nm5,ad5,len5,cap5,rfl,hb5,ho5⟩:=HDQ.out _ _ _ _ hdq;have HB5:Hid (Below wr.heap.size wr w5):=aA (Below.refl _ _).drew hb5;have HO5:=aB ho5;have c1':w5.cell? ⟨gw,ow+1,none⟩=some (.string (Sc.ba p1)):=(hb5.cell (p:=⟨gw,ow+1,none⟩) gwb).trans c1;have cN':w5.cell? ⟨w.heap.size,kk,none⟩=some (.slice adk rows[kk].2.length capk):=(hb5.cell (p:=⟨w.heap.size,kk,none⟩) hNb.2).trans cN;clear hb5 ho5 hdq)
            |(go_at_call 224;refine (HRD2.out _ (aC _ _).drew).mono ?_;rintro e w5 hdq;obtain ⟨nm5,ad5,len5,cap5,rfl,hb5,ho5⟩:=HDQ.out _ _ _ _ hdq;have HB5:Hid (Below wr.heap.size wr w5):=aA (aC _ _).drew hb5;have HO5:=aB ho5;have HX5:Hid (BxDF w5 wr.heap.size ⟨#[]⟩ (.slice none 0 0)):=wU _ _ _ _ _ ((wU _ _ _).drew (BxDF.new rfl _ _)) hb5;obtain ⟨⟨b0,b1,b2⟩,b3,b4⟩:=HX5.out;have c1':w5.cell? ⟨gw,ow+1,none⟩=some (.string (Sc.ba p1)):=(HB5.out.cell (p:=⟨gw,ow+1,none⟩) gwb).trans c1;have cN':w5.cell? ⟨w.heap.size,kk,none⟩=some (.slice adk rows[kk].2.length capk):=(HB5.out.cell (p:=⟨w.heap.size,kk,none⟩) hNb.2).trans cN;clear hb5 ho5 hdq))
         all_goals go_wp2_with fail
         all_goals go_meet
         all_goals first
          |exact ⟨w5.heap.size,nm5,ad5,len5,cap5,rfl,rfl,rfl,rfl,BxD.new rfl _ _,aA HB5.out (aC _ _),fun h=>⟨(HO5.out h).1,((HO5.out h).2.base HKX.out.1.size).below (aC _ _)⟩⟩
          |exact ⟨wr.heap.size,nm5,ad5,len5,cap5,rfl,rfl,rfl,rfl,⟨(MW b0 b1).2.2.1 _ _,(MW b0 b1).2.2.2 _ _,by simpa using b2⟩,fL (Nat.le_refl _) HB5.out,fun h=>⟨(HO5.out h).1,(((HO5.out h).2.base (by have:=HKX.out.1.size;simp;omega)).set (fun e=>by have:=((HO5.out h).2.lt e).2;simp at this;omega) 0 _).set (fun e=>by have:=((HO5.out h).2.lt e).2;simp at this;omega) 1 _⟩⟩
        case rest=>
         obtain ⟨M,nm,ad5,len5,cap5,rfl,rfl,rfl,rfl,hbx,hbl,hok⟩:=hcut;have HBX:=aB hbx;have HBL:=aB hbl;have HKC:=aB (NB _ _ _ _ _ HKX.out hbl);clear hbx hbl
         by_cases her:de=0
         · obtain ⟨hnm,hou⟩:=hok her
           subst hnm;have HOU:=aB hou;have HS2:=aB (HFS.out her);have erk:rows[kk]! =rows[kk]:=getElem!_pos rows kk hkr;have hNk:wc.cell? ⟨w.heap.size,kk,none⟩=some (.slice adk rows[kk].2.length capk):=by rw [HKC.out.2.cell kk hkr,HVK.out]
           obtain ⟨m0,m1,m2⟩:=HBX.out;have hNk':(wc.alloc (.cells #[.string (Sc.ba p1),.slice ad5 len5 cap5] 170)).cell? ⟨w.heap.size,kk,none⟩=some (.slice adk rows[kk].2.length capk):=((aC wc _).cell (p:=⟨w.heap.size,kk,none⟩) (HKC.out.2.size).2).trans hNk;subst her;clear hok hou HFS HFE
           go_upto_region 15 with fail
           go_region_law (refine UC (w:=w) (wx:=wc.drew) (N:=w.heap.size) (rows:=rows) (k:=kk) (d:=LD) (u:= .slice ad5 len5 cap5) rfl (.tmp 55) (.tmp 57) rfl (vk:= .slice adk rows[kk].2.length capk) rfl hkr (by rw [erk];exact HVK.out) ((NB _ _ _).drew HKC.out) (HOU.out.below (Below.refl _ _).drew) HLD.out.1 rfl rfl (by rw [erk];omega) ?_;intro v6 w6 hak6;obtain ⟨hk6,n0,n1,ad6,len6,cap6,rfl⟩:=hak6;rw [erk] at hk6 n0;rw [HVK.out] at n0;have HK6:=aB hk6;clear hk6)
           all_goals go_wp2
           all_goals exact ⟨⟨k+1,kk,_,by omega,by go_num,rfl,(List.length_set ..).trans hrl,(fun r hr=>by
            rcases List.mem_or_eq_of_mem_set hr with h|rfl
            · exact Nat.le_succ_of_le (HRK.out r h)
            · simp only [List.length_append,List.length_cons,List.length_nil]
              exact Nat.succ_le_succ (HRK.out _ (List.getElem_mem hkr))),HK6.out,HS2.out _ _⟩,by simp [intOf];omega⟩
         · have HR:=aB (HFE.out her)
           have hde:(de==0)=false:=by simpa using her
           go_wp2
           exact HER.out de _ HR.out her HKC.out.1
  · have hke:k=Lns.length:=by omega
    subst hke;rw [List.drop_length] at hrf;have HR:Hid (FR=(0,cJ rows)):=by unfold Hid;rw [hrf];rfl
    clear hrf hrk hkx
    go_wp2
    exact HOK.out rows _ hrl HKX.out HR.out
def BxMF (w:World) (N:Nat) (v1 v2 v3 v4:Value):Prop:=BxM w N v1 v2 v3 v4∧∀ i,i<4→w.frozen? ⟨N,i,none⟩=false
theorem qP (N:Nat) (v1 v2 v3 v4:Value):KeepP fun w1=>BxMF w1 N v1 v2 v3 v4:=fun _ _ h hb=>
 ⟨jU _ _ _ _ _ _ _ h.1 hb,fun i hi=>(hb.frozen (p:=⟨N,i,none⟩) h.1.2.2.2.2).trans (h.2 i hi)⟩
theorem BxMF.new {w:World} {N:Nat} (hN:w.heap.size=N) (v1 v2 v3 v4:Value):BxMF (w.alloc (.cells #[v1,v2,v3,v4] 24)) N v1 v2 v3 v4:=by
 refine ⟨BxM.new hN _ _ _ _,fun i hi=> ?_⟩;subst hN
 simp
theorem eD {w:World} {N i j:Nat} {u x:Value} (h:i≠j) (hx:w.cell? ⟨N,j,none⟩=some x):(w.setCell ⟨N,i,none⟩ u).cell? ⟨N,j,none⟩=some x:=(World.cell?_setCell_other _ _ _ _ (fun e=>by cases e;exact h rfl)).trans hx
theorem set4 {w:World} {N:Nat} {x0 x1 x2 x3:Value} (j0:w.cell? ⟨N,0,none⟩=some x0) (j1:w.cell? ⟨N,1,none⟩=some x1) (j2:w.cell? ⟨N,2,none⟩=some x2) (j3:w.cell? ⟨N,3,none⟩=some x3) (u0 u1 u2 u3:Value):
 ((((w.setCell ⟨N,0,none⟩ u0).setCell ⟨N,1,none⟩ u1).setCell ⟨N,2,none⟩ u2).setCell ⟨N,3,none⟩ u3).cell? ⟨N,0,none⟩=some u0∧((((w.setCell ⟨N,0,none⟩ u0).setCell ⟨N,1,none⟩ u1).setCell ⟨N,2,none⟩ u2).setCell ⟨N,3,none⟩ u3).cell? ⟨N,1,none⟩=some u1∧((((w.setCell ⟨N,0,none⟩ u0).setCell ⟨N,1,none⟩ u1).setCell ⟨N,2,none⟩ u2).setCell ⟨N,3,none⟩ u3).cell? ⟨N,2,none⟩=some u2∧((((w.setCell ⟨N,0,none⟩ u0).setCell ⟨N,1,none⟩ u1).setCell ⟨N,2,none⟩ u2).setCell ⟨N,3,none⟩ u3).cell? ⟨N,3,none⟩=some u3:=by
 exact ⟨eD (by decide) (eD (by decide) (eD (by decide) (World.cell?_setCell_same _ _ _ (j0)))),eD (by decide) (eD (by decide) (World.cell?_setCell_same _ _ _ (eD (by decide) (j1)))),eD (by decide) (World.cell?_setCell_same _ _ _ (eD (by decide) (eD (by decide) (j2)))),World.cell?_setCell_same _ _ _ (eD (by decide) (eD (by decide) (eD (by decide) (j3))))⟩
theorem dB {w w':World} {N B:Nat} {u0 u1 u2 u3:Value} (hN:B≤N) (h:Below B w w'):Below B w ((((w'.setCell ⟨N,0,none⟩ u0).setCell ⟨N,1,none⟩ u1).setCell ⟨N,2,none⟩ u2).setCell ⟨N,3,none⟩ u3):=
 ((((h.setCell (p:=⟨N,0,none⟩) hN _).setCell (p:=⟨N,1,none⟩) hN _).setCell (p:=⟨N,2,none⟩) hN _).setCell (p:=⟨N,3,none⟩) hN _)
theorem YS {w:World} {N g:Nat} {u0 u1 u2 u3:Value} (h:g≠N):((((w.setCell ⟨N,0,none⟩ u0).setCell ⟨N,1,none⟩ u1).setCell ⟨N,2,none⟩ u2).setCell ⟨N,3,none⟩ u3).heap[g]? =w.heap[g]? :=
 (Below.heap_setCell _ _ _ _ h).trans ((Below.heap_setCell _ _ _ _ h).trans ((Below.heap_setCell _ _ _ _ h).trans (Below.heap_setCell _ _ _ _ h)))
theorem BxM.set4 {w:World} {N:Nat} {x1 x2 x3 x4:Value} (h:BxM w N x1 x2 x3 x4) (u0 u1 u2 u3:Value):BxM ((((w.setCell ⟨N,0,none⟩ u0).setCell ⟨N,1,none⟩ u1).setCell ⟨N,2,none⟩ u2).setCell ⟨N,3,none⟩ u3) N u0 u1 u2 u3:=by
 obtain ⟨j0,j1,j2,j3,j4⟩:=h;obtain ⟨a,b,c,d⟩:=Go.Proofs.YtmnhnofnlcbliaaGreatDoor.set4 j0 j1 j2 j3 u0 u1 u2 u3;exact ⟨a,b,c,d,by simpa using j4⟩
def mfW:List Sc.Bs:=[[110,101,101,100,115],[100,101,118],[108,105,107,101,115],[112,105,110,115]]
def cW:List (List Sc.Bs)→Int
 |[]=>22
 |h::r=>if h=[[112,114,111,106,101,99,116]] then (aV mfW 0 [[],[],[],[]] r).1 else 22
def dL:List (List Sc.Bs)→Mn
 |[]=>⟨[],[],[],[]⟩
 |_::r=>⟨(aV mfW 0 [[],[],[],[]] r).2.getD 0 [],(aV mfW 0 [[],[],[],[]] r).2.getD 1 [],(aV mfW 0 [[],[],[],[]] r).2.getD 2 [],(aV mfW 0 [[],[],[],[]] r).2.getD 3 []⟩
theorem OwnD.ofM {w w':World} {B:Nat} {v:Value} {ps:List (Dp×Value)} (h:OwnD w B v ps) (hk:∀ g,B≤g→w'.heap[g]? =w.heap[g]?):OwnD w' B v ps:=
 ⟨mK h.1 fun g hg=>hk g (h.1.lt g hg).1,fun p hp=>(h.2 p hp).of_block fun g hg=>hk g ((h.2 p hp).lt hg).2⟩
def OwnM (w:World) (B:Nat) (P:Mn) (v1 v2 v3 v4:Value):Prop:=∃ q1 q2 q3 q4,(OwnD w B v1 q1∧q1.map (·.1)=P.d)∧(OwnD w B v2 q2∧q2.map (·.1)=P.v)∧(OwnD w B v3 q3∧q3.map (·.1)=P.o)∧(OwnD w B v4 q4∧q4.map (·.1)=P.p)
theorem OwnM.below {w w':World} {B:Nat} {P:Mn} {v1 v2 v3 v4:Value} (h:OwnM w B P v1 v2 v3 v4) (hb:Below w.heap.size w w'):OwnM w' B P v1 v2 v3 v4:=by
 obtain ⟨q1,q2,q3,q4,h1,h2,h3,h4⟩:=h;exact ⟨q1,q2,q3,q4,⟨h1.1.below hb,h1.2⟩,⟨h2.1.below hb,h2.2⟩,⟨h3.1.below hb,h3.2⟩,h4.1.below hb,h4.2⟩
theorem OwnM.base {w:World} {B C:Nat} {P:Mn} {v1 v2 v3 v4:Value} (h:OwnM w B P v1 v2 v3 v4) (hc:C≤B):OwnM w C P v1 v2 v3 v4:=by
 obtain ⟨q1,q2,q3,q4,h1,h2,h3,h4⟩:=h;exact ⟨q1,q2,q3,q4,⟨h1.1.base hc,h1.2⟩,⟨h2.1.base hc,h2.2⟩,⟨h3.1.base hc,h3.2⟩,h4.1.base hc,h4.2⟩
theorem OwnM.of {w w':World} {B:Nat} {P:Mn} {v1 v2 v3 v4:Value} (h:OwnM w B P v1 v2 v3 v4) (hk:∀ g,B≤g→w'.heap[g]? =w.heap[g]?):OwnM w' B P v1 v2 v3 v4:=by
 obtain ⟨q1,q2,q3,q4,h1,h2,h3,h4⟩:=h;exact ⟨q1,q2,q3,q4,⟨h1.1.ofM hk,h1.2⟩,⟨h2.1.ofM hk,h2.2⟩,⟨h3.1.ofM hk,h3.2⟩,h4.1.ofM hk,h4.2⟩
theorem OwnM.at {w:World} {B:Nat} {P:Mn} {v1 v2 v3 v4:Value} (h:OwnM w B P v1 v2 v3 v4):MnAt w P v1 v2 v3 v4:=by
 obtain ⟨q1,q2,q3,q4,h1,h2,h3,h4⟩:=h;exact ⟨h1.2 ▸ h1.1.at,h2.2 ▸ h2.1.at,h3.2 ▸ h3.1.at,h4.2 ▸ h4.1.at⟩
theorem IP (B:Nat) (P:Mn) (v1 v2 v3 v4:Value):KeepP fun w1=>OwnM w1 B P v1 v2 v3 v4:=fun _ _ h hb=>h.below hb
def MkQ (w:World) (er:Int) (P:Mn) (e:Ending) (w':World):Prop:=∃ v1 v2 v3 v4,e= .returned (.tuple #[.agg #[v1,v2,v3,v4],.int .i64 er])∧Below w.heap.size w w'∧(er=0→OwnM w' w.heap.size P v1 v2 v3 v4)∧(er≠0→v1= .slice none 0 0∧v2= .slice none 0 0∧v3= .slice none 0 0∧v4= .slice none 0 0)
theorem MkQ.err {w w':World} {er er':Int} {P:Mn} (h0:er=er') (h:er'≠0) (hb:Below w.heap.size w w'):MkQ w er P (.returned (.tuple #[.agg #[.slice none 0 0,.slice none 0 0,.slice none 0 0,.slice none 0 0],.int .i64 er'])) w':=by
 subst h0;exact ⟨_,_,_,_,rfl,hb,fun e=>absurd e h,fun _=>⟨rfl,rfl,rfl,rfl⟩⟩
theorem MkQ.sl {w w':World} {er:Int} {P:Mn} {e:Ending} (h:MkQ w er P e w'):∃ a1 k1 c1 a2 k2 c2 a3 k3 c3 a4 k4 c4,e= .returned (.tuple #[.agg #[.slice a1 k1 c1,.slice a2 k2 c2,.slice a3 k3 c3,.slice a4 k4 c4],.int .i64 er])∧Below w.heap.size w w'∧(er=0→OwnM w' w.heap.size P (.slice a1 k1 c1) (.slice a2 k2 c2) (.slice a3 k3 c3) (.slice a4 k4 c4)∧k1=P.d.length∧k2=P.v.length∧k3=P.o.length∧k4=P.p.length)∧(er≠0→k1=0∧k2=0∧k3=0∧k4=0):=by
 obtain ⟨v1,v2,v3,v4,h1,h2,h3,h4⟩:=h
 by_cases h0:er=0
 · obtain ⟨q1,q2,q3,q4,o1,o2,o3,o4⟩:=h3 h0
   have ho:=h3 h0;obtain ⟨a1,c1,e1⟩:=o1.1.len;obtain ⟨a2,c2,e2⟩:=o2.1.len;obtain ⟨a3,c3,e3⟩:=o3.1.len;obtain ⟨a4,c4,e4⟩:=o4.1.len;subst e1 e2 e3 e4;exact ⟨_,_,_,_,_,_,_,_,_,_,_,_,h1,h2,fun _=>⟨ho,by rw [←o1.2];simp,by rw [←o2.2];simp,by rw [←o3.2];simp,by rw [←o4.2];simp⟩,fun h=>absurd h0 h⟩
 · obtain ⟨e1,e2,e3,e4⟩:=h4 h0
   subst e1 e2 e3 e4;exact ⟨_,_,_,_,_,_,_,_,_,_,_,_,h1,h2,fun h=>absurd h h0,fun _=>⟨rfl,rfl,rfl,rfl⟩⟩
theorem Dm {rows:List (Value×List (Dp×Value))} {R:List (List Dp)} (h:cJ rows=R) (hl:rows.length=4) {w:World} {B N:Nat} (hr:RD w B N rows):∃ a1 k1 c1 a2 k2 c2 a3 k3 c3 a4 k4 c4,(w.cell? ⟨N,0,none⟩=some (.slice a1 k1 c1)∧w.cell? ⟨N,1,none⟩=some (.slice a2 k2 c2)∧w.cell? ⟨N,2,none⟩=some (.slice a3 k3 c3)∧w.cell? ⟨N,3,none⟩=some (.slice a4 k4 c4))∧OwnM w B ⟨R.getD 0 [],R.getD 1 [],R.getD 2 [],R.getD 3 []⟩ (.slice a1 k1 c1) (.slice a2 k2 c2) (.slice a3 k3 c3) (.slice a4 k4 c4):=by
 subst h;have z0:=hr.cell 0 (by omega);have z1:=hr.cell 1 (by omega);have z2:=hr.cell 2 (by omega);have z3:=hr.cell 3 (by omega);have o0:=hr.2.1 _ (List.getElem_mem (show 0<rows.length by omega));have o1:=hr.2.1 _ (List.getElem_mem (show 1<rows.length by omega));have o2:=hr.2.1 _ (List.getElem_mem (show 2<rows.length by omega));have o3:=hr.2.1 _ (List.getElem_mem (show 3<rows.length by omega));obtain ⟨a1,c1,e1⟩:=o0.len;obtain ⟨a2,c2,e2⟩:=o1.len;obtain ⟨a3,c3,e3⟩:=o2.len;obtain ⟨a4,c4,e4⟩:=o3.len;rw [e1] at z0 o0;rw [e2] at z1 o1;rw [e3] at z2 o2;rw [e4] at z3 o3;exact ⟨a1,_,c1,a2,_,c2,a3,_,c3,a4,_,c4,⟨z0,z1,z2,z3⟩,_,_,_,_,⟨o0,(dW (show 0<rows.length by omega)).symm⟩,⟨o1,(dW (show 1<rows.length by omega)).symm⟩,⟨o2,(dW (show 2<rows.length by omega)).symm⟩,o3,(dW (show 3<rows.length by omega)).symm⟩
theorem oV {X:List Sc.Bs}:∀ (Lns:List (List Sc.Bs)) (a:Nat) (acc:List (List Dp)),(aV X a acc Lns).1=0→(aV X a acc Lns).2.length=acc.length
 |[],_,_,_=>rfl
 |ln::r,a,acc,h=>by
  unfold aV at h ⊢
  split at h
  · cases h
  · split at h
    · cases h
    · split at h
      · rename_i h1 h2 h3
        rw [if_neg h1,if_neg h2,if_pos h3];rw [oV r _ _ h,List.length_set]
      · rename_i h1 h2 h3
        exact absurd h h3
theorem NE {w:World} {B:Nat} {v:Value} {ws:List Sc.Bs} (h:OwnT w B v (ws.map Sc.ba)):Sc.WordsAt w v ws:=by
 refine Sc.OwnW.at (B:=B) ?_;unfold Sc.OwnW Sc.lD;unfold OwnT at h;rw [List.length_map,List.map_map] at h;exact h
set_option maxHeartbeats 3200000 in
theorem IQ {g:Nat} {w:World} (hg:w.heap[g]? =some (bM (.slice none 0 0) (.slice none 0 0) (.slice none 0 0) (.slice none 0 0))):
 Calls Tryz.prog 185 #[.slice (some ⟨g,0,none⟩) 4 4] w fun e w'=>∃ v,e= .returned v∧Sc.WordsAt w' v mfW∧Below w.heap.size w w':=by
 have HG:Hid (∀ w1,Below w.heap.size w w1→w1.heap[g]? =some (bM (.slice none 0 0) (.slice none 0 0) (.slice none 0 0) (.slice none 0 0))):=fun w1 h=>(h.block g (Array.getElem?_eq_some_iff.1 hg).1).trans hg
 clear hg
 go_enter Tryz.func185,Tryz.ntmps185
 go_wp2
 go_loopw [3,8] (fun u i wr=>∃ k:Nat,k≤4∧i= .int .i64 k∧Below w.heap.size w wr∧OwnT wr w.heap.size u ((mfW.map Sc.ba).take k)) (fun _ i _=>4 - (intOf i).toNat)
 case atStart=>exact ⟨0,Nat.zero_le _,rfl,Below.refl _ _,OwnT.nil _ _⟩
 case round=>
  obtain ⟨k,hk,rfl,hb,how⟩:=hrel
  rcases (show k=0∨k=1∨k=2∨k=3∨k=4 by omega) with rfl|rfl|rfl|rfl|rfl
  · have q0:wr.cell? ⟨g,0,none⟩=some (.string ⟨#[110,101,101,100,115]⟩):=by rw [Lib.cell_of_heap (HG.out wr hb)];rfl
    have q1:wr.cell? ⟨g,1,none⟩=some (.slice none 0 0):=by rw [Lib.cell_of_heap (HG.out wr hb)];rfl
    have HK:Hid (Below w.heap.size w (wr.alloc (.cells #[.string ⟨#[110,101,101,100,115]⟩,.slice none 0 0] 180))∧OwnT (wr.alloc (.cells #[.string ⟨#[110,101,101,100,115]⟩,.slice none 0 0] 180)) w.heap.size u3 ((mfW.map Sc.ba).take 0)):=⟨aA hb (aC _ _),how.below (aC _ _)⟩;clear hb how
    go_wp2_with (at_builtin;refine pR (uo:=u3) (ts:=(mfW.map Sc.ba).take 0) rfl (.tmp 12) (.tmp 15) rfl rfl HK.out rfl (by simp [go_sem]) (by decide) ?_;intro v3 w3 ok3;have HO3:=aB ok3;clear ok3)
    exact ⟨⟨0+1,by omega,by go_num,HO3.out.1,HO3.out.2⟩,by simp [intOf]⟩
  · have q0:wr.cell? ⟨g,2,none⟩=some (.string ⟨#[100,101,118]⟩):=by rw [Lib.cell_of_heap (HG.out wr hb)];rfl
    have q1:wr.cell? ⟨g,3,none⟩=some (.slice none 0 0):=by rw [Lib.cell_of_heap (HG.out wr hb)];rfl
    have HK:Hid (Below w.heap.size w (wr.alloc (.cells #[.string ⟨#[100,101,118]⟩,.slice none 0 0] 180))∧OwnT (wr.alloc (.cells #[.string ⟨#[100,101,118]⟩,.slice none 0 0] 180)) w.heap.size u3 ((mfW.map Sc.ba).take 1)):=⟨aA hb (aC _ _),how.below (aC _ _)⟩;clear hb how
    go_wp2_with (at_builtin;refine pR (uo:=u3) (ts:=(mfW.map Sc.ba).take 1) rfl (.tmp 12) (.tmp 15) rfl rfl HK.out rfl (by simp [go_sem]) (by decide) ?_;intro v3 w3 ok3;have HO3:=aB ok3;clear ok3)
    exact ⟨⟨1+1,by omega,by go_num,HO3.out.1,HO3.out.2⟩,by simp [intOf]⟩
  · have q0:wr.cell? ⟨g,4,none⟩=some (.string ⟨#[108,105,107,101,115]⟩):=by rw [Lib.cell_of_heap (HG.out wr hb)];rfl
    have q1:wr.cell? ⟨g,5,none⟩=some (.slice none 0 0):=by rw [Lib.cell_of_heap (HG.out wr hb)];rfl
    have HK:Hid (Below w.heap.size w (wr.alloc (.cells #[.string ⟨#[108,105,107,101,115]⟩,.slice none 0 0] 180))∧OwnT (wr.alloc (.cells #[.string ⟨#[108,105,107,101,115]⟩,.slice none 0 0] 180)) w.heap.size u3 ((mfW.map Sc.ba).take 2)):=⟨aA hb (aC _ _),how.below (aC _ _)⟩;clear hb how
    go_wp2_with (at_builtin;refine pR (uo:=u3) (ts:=(mfW.map Sc.ba).take 2) rfl (.tmp 12) (.tmp 15) rfl rfl HK.out rfl (by simp [go_sem]) (by decide) ?_;intro v3 w3 ok3;have HO3:=aB ok3;clear ok3)
    exact ⟨⟨2+1,by omega,by go_num,HO3.out.1,HO3.out.2⟩,by simp [intOf]⟩
  · have q0:wr.cell? ⟨g,6,none⟩=some (.string ⟨#[112,105,110,115]⟩):=by rw [Lib.cell_of_heap (HG.out wr hb)];rfl
    have q1:wr.cell? ⟨g,7,none⟩=some (.slice none 0 0):=by rw [Lib.cell_of_heap (HG.out wr hb)];rfl
    have HK:Hid (Below w.heap.size w (wr.alloc (.cells #[.string ⟨#[112,105,110,115]⟩,.slice none 0 0] 180))∧OwnT (wr.alloc (.cells #[.string ⟨#[112,105,110,115]⟩,.slice none 0 0] 180)) w.heap.size u3 ((mfW.map Sc.ba).take 3)):=⟨aA hb (aC _ _),how.below (aC _ _)⟩;clear hb how
    go_wp2_with (at_builtin;refine pR (uo:=u3) (ts:=(mfW.map Sc.ba).take 3) rfl (.tmp 12) (.tmp 15) rfl rfl HK.out rfl (by simp [go_sem]) (by decide) ?_;intro v3 w3 ok3;have HO3:=aB ok3;clear ok3)
    exact ⟨⟨3+1,by omega,by go_num,HO3.out.1,HO3.out.2⟩,by simp [intOf]⟩
  · have HO:=aB (NE (ws:=mfW) how)
    have HB:=aB hb;clear hb how
    go_wp2
    go_ret;exact ⟨_,rfl,HO.out,HB.out⟩
theorem iU (h:List Sc.Bs) (r:List (List Sc.Bs)):cW (h::r)=if h=[[112,114,111,106,101,99,116]] then (aV mfW 0 [[],[],[],[]] r).1 else 22:=rfl
set_option maxHeartbeats 1600000 in
theorem wW (w:World) (ad:Option Addr) (cap:Nat):Calls Tryz.prog 139 #[.slice ad 0 cap] w (MkQ w (cW []) (dL [])):=by
 have HER:Hid (∀ w',Below w.heap.size w w'→MkQ w (cW []) (dL []) (.returned (.tuple #[.agg #[.slice none 0 0,.slice none 0 0,.slice none 0 0,.slice none 0 0],.int .i64 22])) w'):=fun w' hb=>MkQ.err rfl (by decide) hb
 generalize MkQ w (cW []) (dL [])=HQ at*
 go_enter Tryz.func139,Tryz.ntmps139
 go_wp2
 try simp only [Exit.inBlock,Exit.then]
 refine bodyPost_ret (by simp [results,Tryz.results139,go_sem];try rfl) rfl ?_;exact HER.out _ (aC _ _)
set_option maxHeartbeats 1600000 in
theorem wX {P:Mn} {au:Option Addr} {hl cu:Nat} {w:World} {g o n cap:Nat} (c0:w.cell? ⟨g,o,none⟩=some (.slice au hl cu)) (hg:g<w.heap.size) (h1:hl≠1):
 Calls Tryz.prog 139 #[.slice (some ⟨g,o,none⟩) (n+1) cap] w (MkQ w 22 P):=by
 have HER:Hid (∀ w',Below w.heap.size w w'→MkQ w 22 P (.returned (.tuple #[.agg #[.slice none 0 0,.slice none 0 0,.slice none 0 0,.slice none 0 0],.int .i64 22])) w'):=fun w' hb=>MkQ.err rfl (by decide) hb
 generalize MkQ w 22 P=HQ at*;have c0':(w.alloc (.cells #[.slice none 0 0,.slice none 0 0,.slice none 0 0,.slice none 0 0] 24)).cell? ⟨g,o,none⟩=some (.slice au hl cu):=((aC w _).cell (p:=⟨g,o,none⟩) hg).trans c0;have hb0:(0:Int)<(n:Int)+1:=by omega
 have hb3:((n:Int)+1==0)=false:=by rw [beq_eq_false_iff_ne];omega
 have hb4:((hl:Int)==1)=false:=by rw [beq_eq_false_iff_ne];omega
 go_enter Tryz.func139,Tryz.ntmps139
 go_wp2
 try simp only [Exit.inBlock,Exit.then]
 refine bodyPost_ret (by simp [results,Tryz.results139,go_sem];try rfl) rfl ?_;exact HER.out _ (aC _ _)
set_option maxHeartbeats 1600000 in
theorem tQ {P:Mn} {x:Sc.Bs} {gu ou cu:Nat} {w:World} {g o n cap:Nat} (c0:w.cell? ⟨g,o,none⟩=some (.slice (some ⟨gu,ou,none⟩) 1 cu)) (cx:w.cell? ⟨gu,ou,none⟩=some (.string (Sc.ba x))) (hg:g<w.heap.size) (hgu:gu<w.heap.size) (h1:x≠[112,114,111,106,101,99,116]):
 Calls Tryz.prog 139 #[.slice (some ⟨g,o,none⟩) (n+1) cap] w (MkQ w 22 P):=by
 have HER:Hid (∀ w',Below w.heap.size w w'→MkQ w 22 P (.returned (.tuple #[.agg #[.slice none 0 0,.slice none 0 0,.slice none 0 0,.slice none 0 0],.int .i64 22])) w'):=fun w' hb=>MkQ.err rfl (by decide) hb
 generalize MkQ w 22 P=HQ at*;have c0':(w.alloc (.cells #[.slice none 0 0,.slice none 0 0,.slice none 0 0,.slice none 0 0] 24)).cell? ⟨g,o,none⟩=some (.slice (some ⟨gu,ou,none⟩) 1 cu):=((aC w _).cell (p:=⟨g,o,none⟩) hg).trans c0;have cx':(w.alloc (.cells #[.slice none 0 0,.slice none 0 0,.slice none 0 0,.slice none 0 0] 24)).cell? ⟨gu,ou,none⟩=some (.string (Sc.ba x)):=((aC w _).cell (p:=⟨gu,ou,none⟩) hgu).trans cx;have hb0:(0:Int)<(n:Int)+1:=by omega
 have hb3:((n:Int)+1==0)=false:=by rw [beq_eq_false_iff_ne];omega
 have hq:((Sc.ba x).toList==[112,114,111,106,101,99,116])=false:=by rw [iY,beq_eq_false_iff_ne];exact h1
 generalize Sc.ba x=s0 at*;clear c0 cx h1
 go_enter Tryz.func139,Tryz.ntmps139
 go_wp2
 try simp only [Exit.inBlock,Exit.then]
 refine bodyPost_ret (by simp [results,Tryz.results139,go_sem];try rfl) rfl ?_;exact HER.out _ (aC _ _)
set_option maxHeartbeats 6400000 in
theorem wY {gu ou cu:Nat} {w:World} {g o:Nat} (c0:w.cell? ⟨g,o,none⟩=some (.slice (some ⟨gu,ou,none⟩) 1 cu)) (cx:w.cell? ⟨gu,ou,none⟩=some (.string (Sc.ba [112,114,111,106,101,99,116]))) (hg:g<w.heap.size) (hgu:gu<w.heap.size) (he:Env w) (hf:FL w):
 Calls Tryz.prog 139 #[.slice (some ⟨g,o,none⟩) 1 1] w (MkQ w (cW ([[112,114,111,106,101,99,116]]::[])) (dL ([[112,114,111,106,101,99,116]]::[]))):=by
 have hE0:cW ([[112,114,111,106,101,99,116]]::[])=(aV mfW 0 [[],[],[],[]] ([])).1:=by rw [iU,if_pos rfl]
 have hP0:dL ([[112,114,111,106,101,99,116]]::[])=⟨(aV mfW 0 [[],[],[],[]] ([])).2.getD 0 [],(aV mfW 0 [[],[],[],[]] ([])).2.getD 1 [],(aV mfW 0 [[],[],[],[]] ([])).2.getD 2 [],(aV mfW 0 [[],[],[],[]] ([])).2.getD 3 []⟩:=rfl;rw [hE0,hP0];have HLI:Hid (∀ w1 vx,Below w.heap.size w w1→Sc.WordsAt w1 vx mfW→Calls Tryz.prog 184 #[.slice (some ⟨g,o,none⟩) 0 0,vx] w1 (ReadQ w1 (aV mfW 0 [[],[],[],[]] ([])))):=fun w1 vx hb hx=>qO (X:=mfW) (Lns:=[]) ⟨_,0,rfl,Nat.le_refl _,Or.inl rfl⟩ hx (by decide) (by simp) (fun ln hl=>by cases hl) (he.below hb) (hf.below hb)
 have HRL:=aB (oV (X:=mfW) ([]) 0 [[],[],[],[]]);clear hE0 hP0 he hf;generalize aV mfW 0 [[],[],[],[]] ([])=RF at*;have HER:Hid (∀ er w',RF.1=er→er≠0→Below w.heap.size w w'→MkQ w RF.1 ⟨RF.2.getD 0 [],RF.2.getD 1 [],RF.2.getD 2 [],RF.2.getD 3 []⟩ (.returned (.tuple #[.agg #[.slice none 0 0,.slice none 0 0,.slice none 0 0,.slice none 0 0],.int .i64 er])) w'):=fun er w' h1 h2 hb=>MkQ.err h1 h2 hb
 have HOK:Hid (∀ v1 v2 v3 v4 w',RF.1=0→Below w.heap.size w w'→OwnM w' w.heap.size ⟨RF.2.getD 0 [],RF.2.getD 1 [],RF.2.getD 2 [],RF.2.getD 3 []⟩ v1 v2 v3 v4→MkQ w RF.1 ⟨RF.2.getD 0 [],RF.2.getD 1 [],RF.2.getD 2 [],RF.2.getD 3 []⟩ (.returned (.tuple #[.agg #[v1,v2,v3,v4],.int .i64 0])) w'):=fun v1 v2 v3 v4 w' h0 hb ho=>by
  rw [h0];exact ⟨v1,v2,v3,v4,rfl,hb,fun _=>ho,fun hx=>absurd rfl hx⟩
 generalize hHQ:MkQ w RF.1 ⟨RF.2.getD 0 [],RF.2.getD 1 [],RF.2.getD 2 [],RF.2.getD 3 []⟩=HQ at*;clear hHQ;have c0':(w.alloc (.cells #[.slice none 0 0,.slice none 0 0,.slice none 0 0,.slice none 0 0] 24)).cell? ⟨g,o,none⟩=some (.slice (some ⟨gu,ou,none⟩) 1 cu):=((aC w _).cell (p:=⟨g,o,none⟩) hg).trans c0;have cx':(w.alloc (.cells #[.slice none 0 0,.slice none 0 0,.slice none 0 0,.slice none 0 0] 24)).cell? ⟨gu,ou,none⟩=some (.string (Sc.ba [112,114,111,106,101,99,116])):=((aC w _).cell (p:=⟨gu,ou,none⟩) hgu).trans cx;have hq:((Sc.ba [112,114,111,106,101,99,116]).toList==[112,114,111,106,101,99,116])=true:=by rw [iY];rfl
 have HB0:Hid (Below w.heap.size w (w.alloc (.cells #[.slice none 0 0,.slice none 0 0,.slice none 0 0,.slice none 0 0] 24))∧BxMF (w.alloc (.cells #[.slice none 0 0,.slice none 0 0,.slice none 0 0,.slice none 0 0] 24)) w.heap.size (.slice none 0 0) (.slice none 0 0) (.slice none 0 0) (.slice none 0 0)):=⟨aC _ _,BxMF.new rfl _ _ _ _⟩;have HKB:Hid (KeepP fun w1=>BxMF w1 w.heap.size (.slice none 0 0) (.slice none 0 0) (.slice none 0 0) (.slice none 0 0)):=qP _ _ _ _ _;generalize Sc.ba [112,114,111,106,101,99,116]=s0 at*;clear c0 cx
 go_enter Tryz.func139,Tryz.ntmps139
 go_upto_region 3 with fail
 generalize w.alloc (.cells #[.slice none 0 0,.slice none 0 0,.slice none 0 0,.slice none 0 0] 24)=w3 at*
 go_cut [4,5] from 4 (fun s4 s5 wx=>∃ vr,s5= .int .i64 RF.1∧s4=vr∧Below w3.heap.size w3 wx∧(RF.1=0→∃ B N rows,w3.heap.size≤B∧vr= .slice (some ⟨N,0,none⟩) rows.length rows.length∧RD wx B N rows∧cJ rows=RF.2))
 case first=>
  go_region_held3 (fun _=>True) (go_keep)
   (first
     |(go_at_call 120;refine (kT _ _ _ _ _ _ _ _ _ _ _ _ _).mono ?_;rintro e w4 ⟨gl,rfl,hb4,_,hgl⟩;have HB4:Hid (Below w3.heap.size w3 w4):=aA (Below.refl _ _).drew hb4;have HGL:=aB hgl;clear hb4 hgl)
     |(go_at_call 185;refine (IQ HGL.out).mono ?_;rintro e w5 ⟨vx,rfl,hwx,hb5⟩;have HB5:Hid (Below w3.heap.size w3 w5):=aA HB4.out hb5;have HWX:=aB hwx;clear hb5 hwx)
     |(go_at_call 184;refine (HLI.out _ _ (aA HB0.out.1 HB5.out) HWX.out).mono ?_;rintro e w6 ⟨vr,rfl,hb6,hok6,_⟩;have HB6:Hid (Below w3.heap.size w3 w6):=aA HB5.out hb6;have HR6:Hid (RF.1=0→∃ B N rows,w3.heap.size≤B∧vr= .slice (some ⟨N,0,none⟩) rows.length rows.length∧RD w6 B N rows∧cJ rows=RF.2):=(fun e0=>by obtain ⟨N,rows,x1,x2,x3⟩:=hok6 e0;exact ⟨_,N,rows,HB5.out.size,x1,x2,x3⟩);clear hb6 hok6))
  go_wp2_with fail
  go_meet
  exact ⟨vr,rfl,rfl,HB6.out,HR6.out⟩
 case rest=>
  obtain ⟨vr,rfl,rfl,hbc,hrc⟩:=hcut;have HBC:Hid (Below w.heap.size w wc):=aA HB0.out.1 hbc;have HXC:=aB (HKB.out _ _ HB0.out.2 hbc);have hw3:w.heap.size<w3.heap.size:=HB0.out.2.1.2.2.2.2;clear hbc
  by_cases hr0:RF.1=0
  · obtain ⟨B,N,rows,hwB,rfl,hRD,hpl⟩:=hrc hr0
    have hrl:rows.length=4:=by have:=HRL.out hr0;rw [←hpl] at this;unfold cJ at this;simpa using this
    obtain ⟨a1,k1,c1,a2,k2,c2,a3,k3,c3,a4,k4,c4,⟨n0,n1,n2,n3⟩,hop⟩:=Dm hpl hrl hRD;have HOP:=aB hop;have hNB:B≤N:=hRD.size.1;clear hop hrc hRD hpl;rw [hrl];rw [hr0];obtain ⟨⟨y0,y1,y2,y3,y4⟩,hfy⟩:=HXC.out;have fy0:=hfy 0 (by decide);have fy1:=hfy 1 (by decide);have fy2:=hfy 2 (by decide);have fy3:=hfy 3 (by decide);clear hfy
    go_upto_region 6 with fail
    go_cut [3] from 7 (fun s3 wx=>s3= .int .i64 0∧Below w.heap.size w wx∧BxM wx w.heap.size (.slice a1 k1 c1) (.slice a2 k2 c2) (.slice a3 k3 c3) (.slice a4 k4 c4)∧OwnM wx B ⟨RF.2.getD 0 [],RF.2.getD 1 [],RF.2.getD 2 [],RF.2.getD 3 []⟩ (.slice a1 k1 c1) (.slice a2 k2 c2) (.slice a3 k3 c3) (.slice a4 k4 c4))
    case first=>
     go_region
     all_goals go_wp2_with fail
     all_goals go_meet
     all_goals exact ⟨rfl,(dB (Nat.le_refl _) HBC.out).drew,(jU _ _ _ _ _).drew (HXC.out.1.set4 _ _ _ _),(IP _ _ _ _ _ _).drew (HOP.out.of fun g hg=>YS (by omega))⟩
    case rest=>
     obtain ⟨rfl,hbd,hyd,hod⟩:=hcut;have HBD:=aB hbd;have HOD:=aB hod;clear hbd hod y0 y1 y2 y3 y4 fy0 fy1 fy2 fy3 n0 n1 n2 n3;obtain ⟨y0,y1,y2,y3,y4⟩:=hyd
     go_wp2
     try simp only [Exit.inBlock,Exit.then]
     refine bodyPost_ret (by simp [results,Tryz.results139,y0,y1,y2,y3,go_sem];try rfl) rfl ?_;exact HOK.out _ _ _ _ _ hr0 HBD.out (HOD.out.base (by omega))
  · obtain ⟨⟨b0,b1,b2,b3,b4⟩,hfz⟩:=HXC.out
    have f0:=hfz 0 (by decide);have f1:=hfz 1 (by decide);have f2:=hfz 2 (by decide);have f3:=hfz 3 (by decide);clear hfz;have s4:=fun u0 u1 u2 u3=>set4 b0 b1 b2 b3 u0 u1 u2 u3
    have hre:(RF.1==0)=false:=by simpa using hr0
    go_wp2
    try simp only [Exit.inBlock,Exit.then]
    refine bodyPost_ret (by simp [results,Tryz.results139,s4,go_sem];try rfl) rfl ?_;exact HER.out _ _ rfl hr0 (dB (Nat.le_refl _) HBC.out)
set_option maxHeartbeats 6400000 in
theorem tR {r:List (List Sc.Bs)} {gu ou cu:Nat} {w:World} {g o cap:Nat} (c0:w.cell? ⟨g,o,none⟩=some (.slice (some ⟨gu,ou,none⟩) 1 cu)) (cx:w.cell? ⟨gu,ou,none⟩=some (.string (Sc.ba [112,114,111,106,101,99,116]))) (hg:g<w.heap.size) (hgu:gu<w.heap.size) (he:Env w) (hf:FL w) (hr:∀ i (hi:i<r.length),∃ u,w.cell? ⟨g,o+1+i,none⟩=some u∧Sc.WordsAt w u r[i]) (hc:r.length+1≤cap) (hc1:¬ cap=1) (hn:r.length≤5000) (hs:∀ ln ∈ r,nL ln):
 Calls Tryz.prog 139 #[.slice (some ⟨g,o,none⟩) (r.length+1) cap] w (MkQ w (cW ([[112,114,111,106,101,99,116]]::r)) (dL ([[112,114,111,106,101,99,116]]::r))):=by
 have hE0:cW ([[112,114,111,106,101,99,116]]::r)=(aV mfW 0 [[],[],[],[]] (r)).1:=by rw [iU,if_pos rfl]
 have hP0:dL ([[112,114,111,106,101,99,116]]::r)=⟨(aV mfW 0 [[],[],[],[]] (r)).2.getD 0 [],(aV mfW 0 [[],[],[],[]] (r)).2.getD 1 [],(aV mfW 0 [[],[],[],[]] (r)).2.getD 2 [],(aV mfW 0 [[],[],[],[]] (r)).2.getD 3 []⟩:=rfl;rw [hE0,hP0];have HLI:Hid (∀ w1 vx,Below w.heap.size w w1→Sc.WordsAt w1 vx mfW→Calls Tryz.prog 184 #[.slice (some ⟨g,o+1,none⟩) r.length (cap - 1),vx] w1 (ReadQ w1 (aV mfW 0 [[],[],[],[]] (r)))):=fun w1 vx hb hx=>qO (X:=mfW) (Lns:=r) (Sc.LinesAt.below (w:=w) ⟨_,_,rfl,by omega,Or.inr ⟨g,o+1,rfl,hg,hr⟩⟩ hb) hx (by decide) hn hs (he.below hb) (hf.below hb)
 have HRL:=aB (oV (X:=mfW) (r) 0 [[],[],[],[]]);clear hE0 hP0 he hf hr hn hs;generalize aV mfW 0 [[],[],[],[]] (r)=RF at*;have HER:Hid (∀ er w',RF.1=er→er≠0→Below w.heap.size w w'→MkQ w RF.1 ⟨RF.2.getD 0 [],RF.2.getD 1 [],RF.2.getD 2 [],RF.2.getD 3 []⟩ (.returned (.tuple #[.agg #[.slice none 0 0,.slice none 0 0,.slice none 0 0,.slice none 0 0],.int .i64 er])) w'):=fun er w' h1 h2 hb=>MkQ.err h1 h2 hb
 have HOK:Hid (∀ v1 v2 v3 v4 w',RF.1=0→Below w.heap.size w w'→OwnM w' w.heap.size ⟨RF.2.getD 0 [],RF.2.getD 1 [],RF.2.getD 2 [],RF.2.getD 3 []⟩ v1 v2 v3 v4→MkQ w RF.1 ⟨RF.2.getD 0 [],RF.2.getD 1 [],RF.2.getD 2 [],RF.2.getD 3 []⟩ (.returned (.tuple #[.agg #[v1,v2,v3,v4],.int .i64 0])) w'):=fun v1 v2 v3 v4 w' h0 hb ho=>by
  rw [h0];exact ⟨v1,v2,v3,v4,rfl,hb,fun _=>ho,fun hx=>absurd rfl hx⟩
 generalize hHQ:MkQ w RF.1 ⟨RF.2.getD 0 [],RF.2.getD 1 [],RF.2.getD 2 [],RF.2.getD 3 []⟩=HQ at*;clear hHQ;have c0':(w.alloc (.cells #[.slice none 0 0,.slice none 0 0,.slice none 0 0,.slice none 0 0] 24)).cell? ⟨g,o,none⟩=some (.slice (some ⟨gu,ou,none⟩) 1 cu):=((aC w _).cell (p:=⟨g,o,none⟩) hg).trans c0;have cx':(w.alloc (.cells #[.slice none 0 0,.slice none 0 0,.slice none 0 0,.slice none 0 0] 24)).cell? ⟨gu,ou,none⟩=some (.string (Sc.ba [112,114,111,106,101,99,116])):=((aC w _).cell (p:=⟨gu,ou,none⟩) hgu).trans cx;have hq:((Sc.ba [112,114,111,106,101,99,116]).toList==[112,114,111,106,101,99,116])=true:=by rw [iY];rfl
 have HB0:Hid (Below w.heap.size w (w.alloc (.cells #[.slice none 0 0,.slice none 0 0,.slice none 0 0,.slice none 0 0] 24))∧BxMF (w.alloc (.cells #[.slice none 0 0,.slice none 0 0,.slice none 0 0,.slice none 0 0] 24)) w.heap.size (.slice none 0 0) (.slice none 0 0) (.slice none 0 0) (.slice none 0 0)):=⟨aC _ _,BxMF.new rfl _ _ _ _⟩;have HKB:Hid (KeepP fun w1=>BxMF w1 w.heap.size (.slice none 0 0) (.slice none 0 0) (.slice none 0 0) (.slice none 0 0)):=qP _ _ _ _ _;generalize Sc.ba [112,114,111,106,101,99,116]=s0 at*;clear c0 cx;have hb0:(0:Int)<(r.length:Int)+1:=by omega
 have hb1:(1:Int)≤(r.length:Int)+1:=by omega
 have hb2:(r.length:Int)+1≤(cap:Int):=by omega
 have hb3:((r.length:Int)+1==0)=false:=by rw [beq_eq_false_iff_ne];omega
 go_enter Tryz.func139,Tryz.ntmps139
 go_upto_region 3 with fail
 generalize w.alloc (.cells #[.slice none 0 0,.slice none 0 0,.slice none 0 0,.slice none 0 0] 24)=w3 at*
 go_cut [4,5] from 4 (fun s4 s5 wx=>∃ vr,s5= .int .i64 RF.1∧s4=vr∧Below w3.heap.size w3 wx∧(RF.1=0→∃ B N rows,w3.heap.size≤B∧vr= .slice (some ⟨N,0,none⟩) rows.length rows.length∧RD wx B N rows∧cJ rows=RF.2))
 case first=>
  go_region_held3 (fun _=>True) (go_keep)
   (first
     |(go_at_call 120;refine (kT _ _ _ _ _ _ _ _ _ _ _ _ _).mono ?_;rintro e w4 ⟨gl,rfl,hb4,_,hgl⟩;have HB4:Hid (Below w3.heap.size w3 w4):=aA (Below.refl _ _).drew hb4;have HGL:=aB hgl;clear hb4 hgl)
     |(go_at_call 185;refine (IQ HGL.out).mono ?_;rintro e w5 ⟨vx,rfl,hwx,hb5⟩;have HB5:Hid (Below w3.heap.size w3 w5):=aA HB4.out hb5;have HWX:=aB hwx;clear hb5 hwx)
     |(go_at_call 184;refine (HLI.out _ _ (aA HB0.out.1 HB5.out) HWX.out).mono ?_;rintro e w6 ⟨vr,rfl,hb6,hok6,_⟩;have HB6:Hid (Below w3.heap.size w3 w6):=aA HB5.out hb6;have HR6:Hid (RF.1=0→∃ B N rows,w3.heap.size≤B∧vr= .slice (some ⟨N,0,none⟩) rows.length rows.length∧RD w6 B N rows∧cJ rows=RF.2):=(fun e0=>by obtain ⟨N,rows,x1,x2,x3⟩:=hok6 e0;exact ⟨_,N,rows,HB5.out.size,x1,x2,x3⟩);clear hb6 hok6))
  go_wp2_with fail
  go_meet
  exact ⟨vr,rfl,rfl,HB6.out,HR6.out⟩
 case rest=>
  obtain ⟨vr,rfl,rfl,hbc,hrc⟩:=hcut;have HBC:Hid (Below w.heap.size w wc):=aA HB0.out.1 hbc;have HXC:=aB (HKB.out _ _ HB0.out.2 hbc);have hw3:w.heap.size<w3.heap.size:=HB0.out.2.1.2.2.2.2;clear hbc
  by_cases hr0:RF.1=0
  · obtain ⟨B,N,rows,hwB,rfl,hRD,hpl⟩:=hrc hr0
    have hrl:rows.length=4:=by have:=HRL.out hr0;rw [←hpl] at this;unfold cJ at this;simpa using this
    obtain ⟨a1,k1,c1,a2,k2,c2,a3,k3,c3,a4,k4,c4,⟨n0,n1,n2,n3⟩,hop⟩:=Dm hpl hrl hRD;have HOP:=aB hop;have hNB:B≤N:=hRD.size.1;clear hop hrc hRD hpl;rw [hrl];rw [hr0];obtain ⟨⟨y0,y1,y2,y3,y4⟩,hfy⟩:=HXC.out;have fy0:=hfy 0 (by decide);have fy1:=hfy 1 (by decide);have fy2:=hfy 2 (by decide);have fy3:=hfy 3 (by decide);clear hfy
    go_upto_region 6 with fail
    go_cut [3] from 7 (fun s3 wx=>s3= .int .i64 0∧Below w.heap.size w wx∧BxM wx w.heap.size (.slice a1 k1 c1) (.slice a2 k2 c2) (.slice a3 k3 c3) (.slice a4 k4 c4)∧OwnM wx B ⟨RF.2.getD 0 [],RF.2.getD 1 [],RF.2.getD 2 [],RF.2.getD 3 []⟩ (.slice a1 k1 c1) (.slice a2 k2 c2) (.slice a3 k3 c3) (.slice a4 k4 c4))
    case first=>
     go_region
     all_goals go_wp2_with fail
     all_goals go_meet
     all_goals exact ⟨rfl,(dB (Nat.le_refl _) HBC.out).drew,(jU _ _ _ _ _).drew (HXC.out.1.set4 _ _ _ _),(IP _ _ _ _ _ _).drew (HOP.out.of fun g hg=>YS (by omega))⟩
    case rest=>
     obtain ⟨rfl,hbd,hyd,hod⟩:=hcut;have HBD:=aB hbd;have HOD:=aB hod;clear hbd hod y0 y1 y2 y3 y4 fy0 fy1 fy2 fy3 n0 n1 n2 n3;obtain ⟨y0,y1,y2,y3,y4⟩:=hyd
     go_wp2
     try simp only [Exit.inBlock,Exit.then]
     refine bodyPost_ret (by simp [results,Tryz.results139,y0,y1,y2,y3,go_sem];try rfl) rfl ?_;exact HOK.out _ _ _ _ _ hr0 HBD.out (HOD.out.base (by omega))
  · obtain ⟨⟨b0,b1,b2,b3,b4⟩,hfz⟩:=HXC.out
    have f0:=hfz 0 (by decide);have f1:=hfz 1 (by decide);have f2:=hfz 2 (by decide);have f3:=hfz 3 (by decide);clear hfz;have s4:=fun u0 u1 u2 u3=>set4 b0 b1 b2 b3 u0 u1 u2 u3
    have hre:(RF.1==0)=false:=by simpa using hr0
    go_wp2
    try simp only [Exit.inBlock,Exit.then]
    refine bodyPost_ret (by simp [results,Tryz.results139,s4,go_sem];try rfl) rfl ?_;exact HER.out _ _ rfl hr0 (dB (Nat.le_refl _) HBC.out)
theorem wZ {Lns:List (List Sc.Bs)} {vl:Value} {w:World} (hl:Sc.LinesAt w vl Lns) (hne:∀ ln ∈ Lns,ln≠[]) (hn:Lns.length≤5000) (hs:∀ ln ∈ Lns,nL ln) (he:Env w) (hf:FL w):
 Calls Tryz.prog 139 #[vl] w (MkQ w (cW Lns) (dL Lns)):=by
 obtain ⟨ad,cap,rfl,hc,hcs⟩:=hl;cases Lns with
 |nil=>exact wW w ad cap
 |cons h r=>
  rcases hcs with hcs|⟨g,o,rfl,hg,hcs⟩
  · cases hcs
  · obtain ⟨u,c0,hu⟩:=hcs 0 (by simp)
    have hr:∀ i (hi:i<r.length),∃ u,w.cell? ⟨g,o+1+i,none⟩=some u∧Sc.WordsAt w u r[i]:=fun i hi=>by
     have:=hcs (i+1) (by simpa using hi)
     simpa [Nat.add_assoc,Nat.add_comm 1 i] using this
    have hc':r.length+1≤cap:=hc;have c0':w.cell? ⟨g,o,none⟩=some u:=c0;have hu':Sc.WordsAt w u h:=hu;clear c0 hu
    by_cases h1:h.length=1
    · obtain ⟨x,rfl⟩:∃ x,h=[x]:=by
       match h,h1 with
       |[x],_=>exact ⟨x,rfl⟩
      obtain ⟨au,cu,rfl,_,hx⟩:=hu'
      rcases hx with hx|⟨gu,ou,rfl,hgu,hx⟩
      · cases hx
      · have cx:w.cell? ⟨gu,ou,none⟩=some (.string (Sc.ba x)):=hx 0 (by simp)
        by_cases hx1:x=[112,114,111,106,101,99,116]
        · subst hx1
          by_cases h1:cap=1
          · subst h1
            obtain rfl:r=[]:=List.eq_nil_of_length_eq_zero (by omega);exact wY c0' cx hg hgu he hf
          · exact tR c0' cx hg hgu he hf hr hc' h1 (by simp at hn;omega) (fun ln hl=>hs ln (List.mem_cons_of_mem _ hl))
        · have:cW ([x]::r)=22:=by rw [iU,if_neg (by simpa using hx1)]
          rw [this];exact tQ c0' cx hg hgu hx1
    · have:cW (h::r)=22:=by rw [iU,if_neg (fun e=>h1 (by rw [e];rfl))]
      rw [this];obtain ⟨au,cu,rfl,_,_⟩:=hu';exact wX c0' hg h1
theorem UE (l:List Sc.Bs):0<(Sc.aW l).length:=by
 match l with
 |[]=>simp [Sc.aW]
 |[_]=>simp [Sc.aW]
 |_::_::_=>simp [Sc.aW];omega
theorem gY:∀ L:List (List Sc.Bs),L.length≤(Sc.aM L).length
 |[]=>Nat.le_refl _
 |l::L=>by
  have h1:=gY L;have h2:=UE l;have e:Sc.aM (l::L)=Sc.aW l++Sc.aM L:=by simp [Sc.aM]
  rw [e,List.length_append,List.length_cons];omega
theorem uA:∀ {L:List (List Sc.Bs)} {l:List Sc.Bs},l ∈ L→(Sc.aW l).length≤(Sc.aM L).length
 |m::L,l,h=>by
  have e:Sc.aM (m::L)=Sc.aW m++Sc.aM L:=by simp [Sc.aM]
  rw [e,List.length_append]
  rcases List.mem_cons.1 h with rfl|h
  · omega
  · have:=uA h
    omega
theorem IR:∀ l:List Sc.Bs,l.length≤(Sc.aW l).length
 |[]=>Nat.zero_le _
 |[w]=>by simp [Sc.aW]
 |w::q::r=>by
  have:=IR (q::r)
  have e:Sc.aW (w::q::r)=w++[32]++Sc.aW (q::r):=rfl;rw [e,List.length_append,List.length_append,List.length_cons];simp only [List.length_cons,List.length_nil] at this ⊢;omega
theorem QE:∀ {l:List Sc.Bs} {x:Sc.Bs},x ∈ l→x.length≤(Sc.aW l).length
 |[w],x,h=>by
  obtain rfl:x=w:=by simpa using h
  simp [Sc.aW]
 |w::q::r,x,h=>by
  have e:Sc.aW (w::q::r)=w++[32]++Sc.aW (q::r):=rfl;rw [e,List.length_append,List.length_append]
  rcases List.mem_cons.1 h with rfl|h
  · omega
  · have:=QE h
    omega
theorem Gc (x y:Sc.Bs) (r:List Sc.Bs):Lib.join (x::y::r) [32]=x++[32]++Lib.join (y::r) [32]:=by
 rw [Lib.join_cons,Lib.join_cons];simp [Lib.joinTail]
theorem QF:∀ l:List Sc.Bs,(Lib.join l [32]).length≤(Sc.aW l).length
 |[]=>Nat.zero_le _
 |[w]=>by rw [Lib.join_one];simp [Sc.aW]
 |w::q::r=>by
  have:=QF (q::r)
  have e:Sc.aW (w::q::r)=w++[32]++Sc.aW (q::r):=rfl;rw [e,Gc,List.length_append,List.length_append,List.length_append,List.length_append];omega
theorem QG (l:List Sc.Bs):(Sc.aW (l.drop 1)).length≤(Sc.aW l).length:=by
 match l with
 |[]=>exact Nat.le_refl _
 |[w]=>simp [Sc.aW]
 |w::q::r=>simp [Sc.aW];omega
def YT (L:List (List Sc.Bs)):Prop:=L.length≤5000∧(∀ ln ∈ L,ln≠[])∧(∀ ln ∈ L,nL ln)∧∀ ln ∈ L,∀ x ∈ ln,x.length≤5000
theorem IU {t:ByteArray} (h:t.size≤4096) {L:List (List Sc.Bs)} (hL:Sc.bI t.data.toList [] [] []= .ok L):YT L:=by
 obtain ⟨hall,htx⟩:=Sc.kJ _ _ _ _ _ hL rfl rfl rfl
 have htl:(Sc.aM L).length≤4096:=by
  rw [htx];have e:Sc.aM []++Sc.uF [] []++t.data.toList=t.data.toList:=by simp [Sc.aM,Sc.uF]
  rw [e,aI];exact h
 refine ⟨by have:=gY L;omega,fun ln hl=> ?_,fun ln hl=>⟨?_,?_⟩,fun ln hl x hx=> ?_⟩
 · have:=List.all_eq_true.1 hall ln hl
   unfold Sc.isL at this;rintro rfl
   simp at this
 · have h1:=IR ln
   have h2:=uA hl;omega
 · have h1:=QF (ln.drop 2)
   have h2:=uA hl;have h3:=QG (ln.drop 1);have h4:=QG ln;rw [List.drop_drop,show 1+1=2 from rfl] at h3;omega
 · have h1:=QE hx
   have h2:=uA hl;omega
theorem xA (t:ByteArray) (w:World):Calls Tryz.prog 138 #[.string t,.int .i64 4096] w (Sc.CI w (Sc.eA t 4096) (Sc.TB t 4096) (Sc.cB t 4096)):=by
 by_cases h:(4096:Int)<(t.size:Int)
 · have:=Sc.rS t 4096 h w
   unfold Sc.eA Sc.TB Sc.cB;rw [if_pos h,if_pos h,if_pos h];exact this
 · exact Sc.zY t (by omega) 4096 w
theorem IV {t:ByteArray} (h:Sc.eA t 4096=0):YT (Sc.cB t 4096):=by
 unfold Sc.eA at h;unfold Sc.cB
 by_cases h1:(4096:Int)<(t.size:Int)
 · rw [if_pos h1] at h;cases h
 · rw [if_neg h1] at h ⊢
   cases hs:Sc.bI t.data.toList [] [] [] with
   |error n=>rw [hs] at h;cases h
   |ok L=>exact IU (by omega) hs
end Go.Proofs.YtmnhnofnlcbliaaGreatDoor
