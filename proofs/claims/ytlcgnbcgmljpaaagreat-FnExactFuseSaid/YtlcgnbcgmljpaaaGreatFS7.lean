import Derived.Test.YtlcgnbcgmljpaaaGreatFS5
import Derived.Test.YtlcgnbcgmljpaaaGreatFS6
import Derived.Test.YtlcgnbcgmljpaaaGreatFW
import Derived.Test.YtlcgnbcgmljpaaaGreatM15
import Derived.Test.YtlcgnbcgmljpaaaGreatData
import Derived.Test.YtlcgnbcgmljpaaaGreatProg
import Derived.ProofKit
import Derived.ChangeOld
import Derived.SizedLaws
import Derived.Deep.Slices
namespace Go.Proofs.YtlcgnbcgmljpaaaGreat
open Go.RowKit
set_option linter.unusedSimpArgs false
set_option linter.unusedVariables false
def Ui (ks:List ak) (ts:List BF) (q:Nat):List ak:=(List.zipWith Jf ks ts).take q++ks.drop q
theorem acf (ks:List ak) (ts:List BF) (h:ts.length=ks.length) (q:Nat) (hq:q<=ks.length):(Ui ks ts q).length=ks.length:=by
 unfold Ui
 rw[List.length_append,List.length_take,List.length_drop,List.length_zipWith]
 omega
theorem azq (ks:List ak) (ts:List BF) (h:ts.length=ks.length) (q:Nat) (hq:q<ks.length):(Ui ks ts q)[q]'(by rw[acf ks ts h q (by omega)];exact hq)=ks[q]:=by
 unfold Ui
 have hl:((List.zipWith Jf ks ts).take q).length=q:=by rw[List.length_take,List.length_zipWith];omega
 rw[List.getElem_append_right (by omega)]
 simp[hl]
theorem ath (ks:List ak) (ts:List BF) (h:ts.length=ks.length) (q:Nat) (hq:q<ks.length):(Ui ks ts q).set q (Jf ks[q] (ts[q]'(by omega)))=Ui ks ts (q+1):=by
 unfold Ui
 have hl:((List.zipWith Jf ks ts).take q).length=q:=by rw[List.length_take,List.length_zipWith];omega
 rw[List.set_append_right _ _ (by omega),hl,Nat.sub_self,List.drop_eq_getElem_cons hq,List.set_cons_zero,List.take_succ_eq_append_getElem (by rw[List.length_zipWith];omega),List.getElem_zipWith]
 simp
theorem aw1 (ks:List ak) (ts:List BF) (h:ts.length=ks.length):Ui ks ts ks.length=List.zipWith Jf ks ts:=by
 unfold Ui
 rw[List.take_of_length_le (by rw[List.length_zipWith];omega),List.drop_length,List.append_nil]
structure H7 (ks:List ak) (ts:List BF) (q:Nat) (k:ak) (t0 t:BF) (B:Nat) (cv:Value) (w:World):Prop where
 wf:t.wf
 len:t.flat.length<=1000000
 dep:t.depth<=t0.depth+1
 fix:Am (t0.depth+1) t=Am (t0.depth+1) t0
 row:Ad uj oh B w cv ((Ui ks ts q).set q { k with body:=t.flat })
theorem H7.done {ks:List ak} {ts:List BF} {q:Nat} {t:BF} {B:Nat} {cv:Value} {w:World} (h:ts.length=ks.length) (hq:q<ks.length) (hf:H7 ks ts q ks[q] (ts[q]'(by omega)) t B cv w) (hs:stepT t=none):Ad uj oh B w cv (Ui ks ts (q+1)):=by
 have h1:=hf.fix
 rw[awp _ t hs] at h1
 have h2:=hf.row
 rw[h1] at h2
 rw[←ath ks ts h q hq]
 exact h2
theorem H7.set {ks:List ak} {ts:List BF} {q:Nat} {k:ak} {t0 t t':BF} {B g n cap:Nat} {w:World} (h:ts.length=ks.length) (hq:q<ks.length) (hf:H7 ks ts q k t0 t B (.slice (some ⟨g,0,none⟩) n cap) w) (hst:stepT t=some t'∨(stepT t=none∧t'=t)) {v6:Value} {bs:List Nat} (hb:C9 zh Aa w v6 t'.flat bs):H7 ks ts q k t0 t' B (.slice (some ⟨g,0,none⟩) n cap) (w.setCell ⟨g,q*7+6,none⟩ v6)∧Fb 43 w (w.setCell ⟨g,q*7+6,none⟩ v6):=by
 have hl:=acf ks ts h q (by omega)
 obtain⟨h1,h2⟩:=hf.row.body q (by rw[List.length_set];omega) hb
 rw[List.getElem_set_self,List.set_set] at h1
 refine⟨?_,h2⟩
 rcases hst with hst|⟨_,rfl⟩
 ·obtain⟨s1,s2,s3⟩:=alf t t' hf.wf hst
  have:=hf.len
  have:=hf.dep
  exact⟨s1,by omega,by omega,(ar1 _ t t' hf.dep hst).trans hf.fix,h1⟩
 ·exact⟨hf.wf,hf.len,hf.dep,hf.fix,h1⟩
theorem H7.below {ks:List ak} {ts:List BF} {q:Nat} {k:ak} {t0 t:BF} {B:Nat} {cv:Value} {w w':World} (hf:H7 ks ts q k t0 t B cv w) (hb:Below w.heap.size w w'):H7 ks ts q k t0 t B cv w':=⟨hf.wf,hf.len,hf.dep,hf.fix,hf.row.below zx zy hb⟩
theorem H7.cell {ks:List ak} {ts:List BF} {q:Nat} {k:ak} {t0 t:BF} {B g n cap:Nat} {w:World} (h:ts.length=ks.length) (hq:q<ks.length) (hf:H7 ks ts q k t0 t B (.slice (some ⟨g,0,none⟩) n cap) w):∃v6,w.cell? ⟨g,q*7+6,none⟩=some v6∧Ad zh Aa 0 w v6 t.flat∧(∃bs,C9 zh Aa w v6 t.flat bs)∧∃cur,au w g 43 cur:=by
 have hl:=acf ks ts h q (by omega)
 obtain⟨css,subs,ho,ha⟩:=hf.row
 have hal:=ha.len
 rw[List.length_set] at hal
 have hqc:q<css.length:=by omega
 have hT:=ha.get q hqc (by rw[List.length_set];omega) (by omega)
 rw[List.getElem_set_self] at hT
 obtain⟨g9,atc,yx,hcells⟩:=Zw ho q hqc
 simp only[Value.slice.injEq,Option.some.injEq,Addr.mk.injEq] at yx
 obtain⟨⟨rfl,_⟩,_,rfl⟩:=yx
 obtain⟨v1,v2,v3,v4,v5,v6,b1,b2,b3,b4,b5,b6,hcs,hnm,g1,g2,g3,g4,g5,g6,hbs⟩:=hT
 obtain⟨cur,hcur⟩:=ho.cellT (g:=g) rfl
 refine⟨v6,hcells 6 _ (by rw[hcs];rfl),?_,⟨_,g6⟩,cur,hcur⟩
 obtain⟨Bc,anl,o6,l6,a6,hb6⟩:=g6
 exact⟨Bc,anl,o6,a6⟩
theorem H7.start {ks:List ak} {ts:List BF} {q:Nat} {B:Nat} {cv:Value} {w:World} (h:ts.length=ks.length) (hq:q<ks.length) (h1:(ts[q]'(by omega)).wf) (h2:(ts[q]'(by omega)).flat=ks[q].body) (h3:(ts[q]'(by omega)).flat.length<=1000000) (hr:Ad uj oh B w cv (Ui ks ts q)):H7 ks ts q ks[q] (ts[q]'(by omega)) (ts[q]'(by omega)) B cv w:=by
 refine⟨h1,h3,by omega,rfl,?_⟩
 rw[h2]
 have e:({ ks[q] with body:=ks[q].body }:ak)=(Ui ks ts q)[q]'(by rw[acf ks ts h q (by omega)];exact hq):=by rw[azq ks ts h q hq]
 rw[e,List.set_getElem_self]
 exact hr
theorem afr {B:Nat} {w:World} {v:Value} {ks:List ak} (h:Ad uj oh B w v ks) (hb:ks.length*160<=140737488355328):bf 7 160 ni 0 w v ks:=by
 obtain⟨bs,h1⟩:=h.rowT (show ks.length*uj.jh<=_ from hb)
 exact h1.sl rfl (fun _=>rfl) (fun cs x bs h=>X5 h)
set_option maxRecDepth 20000 in
set_option maxHeartbeats 8000000 in
theorem aku (w:World) (ks:List ak) (ts:List BF) (v:Value) (hsl:bf 7 160 ni 0 w v ks) (hfew:acg ks) (hts:(Gv ks&&decide (1<=ks.length))=true->ts.length=ks.length∧∀i (h1:i<ts.length) (h2:i<ks.length),ts[i].wf∧ts[i].flat=ks[i].body∧ts[i].flat.length<=1000000) :
  Calls Tryz.prog 5 #[.agg #[v]] w (SpP (H8 ks ts) w):=by
 obtain⟨a,c,hv⟩:=hsl.shape
 subst hv
 obtain⟨PO,Af⟩:∃PO:Ending->World->Prop,PO=SpP (H8 ks ts) w:=⟨_,rfl⟩
 rw[←Af]
 have Fh:=hide Af
 obtain⟨wA,hwA⟩:∃z,z=(w.alloc (.cells #[.slice a ks.length c] 28)).alloc (.cells #[.slice none 0 0] 28):=⟨_,rfl⟩
 have hA:Below w.heap.size w wA:=by rw[hwA];exact((Below.refl _ _).alloc (Nat.le_refl _) _).alloc (by simp) _
 have b1:au wA w.heap.size 28 #[.slice a ks.length c]:=by rw[hwA];exact Ol (Bq rfl) _
 have b2:au wA (w.heap.size+1) 28 #[.slice none 0 0]:=by rw[hwA];exact Bq (by simp)
 obtain⟨ok,hok⟩:∃z,z=(Gv ks&&decide (1<=ks.length)):=⟨_,rfl⟩
 have qy:Hid (Calls Tryz.prog 12 #[.agg #[.slice a ks.length c]] wA (fun e w2=>e=.returned (.bool ok)∧Hid (Below w.heap.size w w2∧au w2 w.heap.size 28 #[.slice a ks.length c]∧au w2 (w.heap.size+1) 28 #[.slice none 0 0]))):=by
  refine hide ((adg ks _ wA (hsl.stays jm hA) hfew).mono ?_)
  rintro e w2 ⟨rfl,hb⟩
  exact⟨by rw[hok,aep],hide ⟨hA.trans (hb.mono hA.size),b1.below hb b1.lt,b2.below hb b2.lt⟩⟩
 have HSL:=hide hsl
 have HTS:=hide hts
 have Hq:=hide hok
 have HBY:=hide hsl.jh
 rw[hwA] at qy
 clear Af hsl hts hA b1 b2 hok hwA hfew
 go_enter Tryz.func5,Tryz.ntmps5
 go_wp2_with fail
 refine(uh qy).mono ?_
 rintro e w2 ⟨rfl,HW⟩
 have m0:=(uh HW).2.1.cell (i:=0) (v:=.slice a ks.length c) rfl
 have r0:=(uh HW).2.2.cell (i:=0) (v:=.slice none 0 0) rfl
 have z0:=(uh HW).2.2.free 0
 cases ok
 ·have zu:Hid (PO (.returned (.agg #[.slice none 0 0])) (w2.setCell ⟨w.heap.size+1,0,none⟩ (.slice none 0 0))∧(w2.setCell ⟨w.heap.size+1,0,none⟩ (.slice none 0 0)).cell? ⟨w.heap.size+1,0,none⟩=some (.slice none 0 0)):=by
   obtain⟨hb,_,hbx⟩:=uh HW
   have h9:H8 ks ts=[]:=by unfold H8;rw[←uh Hq];rfl
   rw[uh Fh,h9]
   exact hide ⟨⟨_,rfl,afr (Ad.nil _ _ 0 _) (by simp),hb.setCell (Nat.le_succ _) _⟩,(hbx.set 0 (.slice none 0 0)).cell (i:=0) rfl⟩
  go_wp2
  have f9:=(uh zu).2
  exact bodyPost_ret (v:=.agg #[.slice none 0 0]) (by simp[results,Tryz.results5,go_sem,f9]) rfl (uh zu).1
 ·have HCP:=hide (agn ks (.slice a ks.length c) w2 ((uh HSL).stays jm (uh HW).1))
  have Yp:Hid (H8 ks ts=List.zipWith Jf ks ts∧ts.length=ks.length∧(∀i (h1:i<ts.length) (h2:i<ks.length),ts[i].wf∧ts[i].flat=ks[i].body∧ts[i].flat.length<=1000000)∧1<=ks.length):=by
   have h9:=uh HTS (uh Hq).symm
   refine hide ⟨by unfold H8;rw[←uh Hq];rfl,h9.1,h9.2,?_⟩
   have h8:=(uh Hq).symm
   rw[Bool.and_eq_true] at h8
   exact of_decide_eq_true h8.2
  clear HTS Hq qy
  go_wp2_with fail
  refine(uh HCP).mono ?_
  rintro e w3 ⟨cv,rfl,hrw,hb3⟩
  have hcv:∃g cc,cv=.slice (some ⟨g,0,none⟩) ks.length cc:=by
   obtain⟨css,subs,ho,ha⟩:=hrw
   have hal:=ha.len
   obtain⟨g,cap,yx,_⟩:=Zw ho 0 (by have:=(uh Yp).2.2.2;omega)
   rw[hal.1] at yx
   exact⟨g,cap,yx⟩
  obtain⟨g,cc,rfl⟩:=hcv
  have hx3:=(uh HW).2.1.below hb3 (uh HW).2.1.lt
  have hr3:=(uh HW).2.2.below hb3 (uh HW).2.2.lt
  have m3:=hx3.cell (i:=0) (v:=.slice a ks.length c) rfl
  have z3:=hx3.free 0
  have h23:Below w.heap.size w w3:=(uh HW).1.trans (hb3.mono (uh HW).1.size)
  obtain⟨w4,hw4⟩:∃z,z=w3.setCell ⟨w.heap.size,0,none⟩ (.slice (some ⟨g,0,none⟩) ks.length cc):=⟨_,rfl⟩
  have hU:=Rw hx3 h23 (Nat.le_refl _) 0 (.slice (some ⟨g,0,none⟩) ks.length cc)
  rw[←hw4] at hU
  obtain⟨Ic,Dj,F6⟩:=hU
  have HST:Hid (Ad uj oh w.heap.size w4 (.slice (some ⟨g,0,none⟩) ks.length cc) (Ui ks ts 0)):=hide (by
   have e:Ui ks ts 0=ks:=by unfold Ui;simp
   rw[e]
   exact(hrw.low (uh HW).1.size).Cm zx zy Dj (by decide) (by decide))
  have azr:Hid (Below w.heap.size w w4):=hide F6
  have ati:Hid (au w4 w.heap.size 28 #[.slice (some ⟨g,0,none⟩) ks.length cc]∧au w4 (w.heap.size+1) 28 #[.slice none 0 0]):=hide ⟨Ic,by rw[hw4];exact(Below.heap_setCell _ _ _ _ (by simp)).trans hr3⟩
  obtain⟨n,hn⟩:∃z,z=ks.length:=⟨_,rfl⟩
  have HN:=hide hn
  have hnb:n<=140737488355328:=by have:=uh HBY;omega
  rw[←hn] at HST ati hw4 ⊢
  clear hrw hb3 hx3 hr3 h23 Ic Dj F6 hn m0 r0 z0
  go_wp2
  rw[←hw4]
  clear hw4 m3 z3
  go_loopg [16] n (fun gh ix wr=>∃(q:Nat),q<=n∧gh=n-q∧ix=.int .i64 q∧Hid (Ad uj oh w.heap.size wr (.slice (some ⟨g,0,none⟩) n cc) (Ui ks ts q))∧Hid (Below w.heap.size w wr)∧Hid (au wr w.heap.size 28 #[.slice (some ⟨g,0,none⟩) n cc]∧au wr (w.heap.size+1) 28 #[.slice none 0 0]))
  case atStart=>exact⟨0,Nat.zero_le _,by omega,rfl,HST,azr,ati⟩
  case round =>
   obtain⟨wq,rfl⟩:∃z,z=wr:=⟨_,rfl⟩
   obtain⟨q,hq,hg,rfl,HR,HB,HX⟩:=hrel
   have HG:=hide hg
   clear hg HST azr ati
   by_cases hlt:q<n
   ·have hqk:q<ks.length:=by rw[←uh HN];exact hlt
    have hqt:q<ts.length:=by rw[(uh Yp).2.1];exact hqk
    have hti:=(uh Yp).2.2.1 q hqt hqk
    have HF0:=hide (H7.start (uh Yp).2.1 hqk hti.1 hti.2.1 hti.2.2 (uh HR))
    have HDN:=hide (fun t W (h1:H7 ks ts q ks[q] ts[q] t w.heap.size (.slice (some ⟨g,0,none⟩) n cc) W) (h2:stepT t=none)=>H7.done (uh Yp).2.1 hqk h1 h2)
    have P9:=hide (fun t t' W v6 bs (h1:H7 ks ts q ks[q] ts[q] t w.heap.size (.slice (some ⟨g,0,none⟩) n cc) W) (h2:stepT t=some t'∨(stepT t=none∧t'=t)) (h3:C9 zh Aa W v6 t'.flat bs)=>H7.set (uh Yp).2.1 hqk h1 h2 h3)
    have Y5:=hide (fun t W (h1:H7 ks ts q ks[q] ts[q] t w.heap.size (.slice (some ⟨g,0,none⟩) n cc) W)=>H7.cell (uh Yp).2.1 hqk h1)
    generalize ks[q]=k at HF0 HDN P9 Y5
    generalize ts[q]=t0 at HF0 HDN P9 Y5
    have azb:(q:Int)<(n:Int):=by omega
    clear hti hqk hqt HR
    go_wp2
    go_loopg [4] (t0.flat.length+1) (fun gh mv wr=>∃(m:Bool) (t:BF),mv=.bool m∧gh=(if m then t.flat.length+1 else 0)∧Hid (m=false->stepT t=none)∧Hid (H7 ks ts q k t0 t w.heap.size (.slice (some ⟨g,0,none⟩) n cc) wr)∧Hid (Below w.heap.size w wr)∧Hid (au wr w.heap.size 28 #[.slice (some ⟨g,0,none⟩) n cc]∧au wr (w.heap.size+1) 28 #[.slice none 0 0]))
    case atStart=>exact⟨true,t0,rfl,by simp,hide (fun h9=>by cases h9),HF0,HB,HX⟩
    case round =>
     obtain⟨m,t,rfl,hg2,HM,HF,HB2,qp⟩:=hrel
     have HG2:=hide hg2
     clear hg2 HF0 HB HX
     cases m
     ·have Eb:=hide (uh HDN t wr (uh HF) (uh HM rfl))
      clear HDN P9 Y5 HF HM HG2
      go_wp2
      go_roundg (n-(q+1))
      case measure=>have:=uh HG;omega
      case rel=>exact⟨q+1,by omega,rfl,by go_num,Eb,HB2,qp⟩
     ·obtain⟨v6,c6,hrb,_,cur,hcur⟩:=uh Y5 t wr (uh HF)
      have hmc:=(uh qp).1.cell (i:=0) (v:=.slice (some ⟨g,0,none⟩) n cc) rfl
      have HFO:=hide (ahg t (uh HF).wf (uh HF).len v6 0 wr hrb)
      obtain⟨i6,h6,hv6⟩:=hrb.slice
      have HV6:=hide hv6
      generalize hn6:t.flat.length=n6 at hv6
      have HN6:=hide hn6
      subst hv6
      have HGL:Hid (g<wr.heap.size):=hide hcur.lt
      have Wy:Hid (w.heap.size<=g):=hide (by
       obtain⟨css,subs,ho,_⟩:=(uh HF).row
       exact ho.block g rfl)
      clear hrb hcur hn6
      go_wp2_with fail
      refine(uh HFO).mono ?_
      rintro e w5 hor
      have HOR:=hide hor
      clear hor
      rcases uh HOR with ⟨hst,rfl,hb5⟩|⟨t',v',hst,rfl,atj,hb5⟩
      ·have hF5:=(uh HF).below hb5
       have e7:w5.cell? ⟨g,q*7+6,none⟩=some (.slice i6 n6 h6):=by
        rw[hb5.cell (p:=⟨g,q*7+6,none⟩) (uh HGL)];exact c6
       obtain⟨v7,c7,_,⟨bs7,aiy⟩,a4c,aer⟩:=uh Y5 t w5 hF5
       rw[e7] at c7
       obtain rfl:=Option.some.inj c7
       have hset:=uh P9 t t w5 _ bs7 hF5 (Or.inr ⟨hst,rfl⟩) aiy
       have hm5:=(uh qp).1.below hb5 (uh qp).1.lt
       have N8:=(uh qp).2.below hb5 (uh qp).2.lt
       have mm:=hm5.cell (i:=0) (v:=.slice (some ⟨g,0,none⟩) n cc) rfl
       have zz:=aer.free (q*7+6)
       have aiz:Below w.heap.size w w5:=(uh HB2).trans (hb5.mono (uh HB2).size)
       obtain⟨w6,hw6⟩:∃z,z=w5.setCell ⟨g,q*7+6,none⟩ (.slice i6 n6 h6):=⟨_,rfl⟩
       have HNF:Hid (H7 ks ts q k t0 t w.heap.size (.slice (some ⟨g,0,none⟩) n cc) w6):=hide (by rw[hw6];exact hset.1)
       have Ob:Hid (Below w.heap.size w w6):=hide (by rw[hw6];exact aiz.setCell (uh Wy) _)
       have Eb:Hid (au w6 w.heap.size 28 #[.slice (some ⟨g,0,none⟩) n cc]∧au w6 (w.heap.size+1) 28 #[.slice none 0 0]):=hide (by rw[hw6];exact⟨hset.2.blk hm5 (by decide),hset.2.blk N8 (by decide)⟩)
       have HNS:=hide hst
       clear hset hF5 aiy aer hm5 N8 aiz hb5 hst c7 HOR
       go_wp2
       rw[←hw6]
       go_roundg 0
       case measure=>have:=uh HG2;simp at this;omega
       case rel=>exact⟨false,t,rfl,by simp,hide (fun _=>uh HNS),HNF,Ob,Eb⟩
      ·have hF5:=(uh HF).below hb5
       have e7:w5.cell? ⟨g,q*7+6,none⟩=some (.slice i6 n6 h6):=by
        rw[hb5.cell (p:=⟨g,q*7+6,none⟩) (uh HGL)];exact c6
       obtain⟨v7,c7,_,_,a4c,aer⟩:=uh Y5 t w5 hF5
       have hsw:=alf t t' (uh HF).wf hst
       have hlt':t'.flat.length<=1000000:=by have:=(uh HF).len;omega
       obtain⟨bs7,aiy⟩:=atj.rowT (show t'.flat.length*104<=_ by omega)
       obtain⟨j6,o6,hv'⟩:=atj.slice
       have hset:=uh P9 t t' w5 _ bs7 hF5 (Or.inl hst) aiy
       have hm5:=(uh qp).1.below hb5 (uh qp).1.lt
       have N8:=(uh qp).2.below hb5 (uh qp).2.lt
       have mm:=hm5.cell (i:=0) (v:=.slice (some ⟨g,0,none⟩) n cc) rfl
       have zz:=aer.free (q*7+6)
       have aiz:Below w.heap.size w w5:=(uh HB2).trans (hb5.mono (uh HB2).size)
       have hless:t'.flat.length<t.flat.length:=hsw.2.2
       obtain⟨n7,hn7⟩:∃z,z=t'.flat.length:=⟨_,rfl⟩
       rw[←hn7] at hv'
       subst hv'
       obtain⟨w6,hw6⟩:∃z,z=w5.setCell ⟨g,q*7+6,none⟩ (.slice j6 n7 o6):=⟨_,rfl⟩
       have HNF:Hid (H7 ks ts q k t0 t' w.heap.size (.slice (some ⟨g,0,none⟩) n cc) w6):=hide (by rw[hw6];exact hset.1)
       have Ob:Hid (Below w.heap.size w w6):=hide (by rw[hw6];exact aiz.setCell (uh Wy) _)
       have Eb:Hid (au w6 w.heap.size 28 #[.slice (some ⟨g,0,none⟩) n cc]∧au w6 (w.heap.size+1) 28 #[.slice none 0 0]):=hide (by rw[hw6];exact⟨hset.2.blk hm5 (by decide),hset.2.blk N8 (by decide)⟩)
       have Cb:=hide hless
       clear hset hF5 aiy aer hm5 N8 aiz hb5 hst c7 HOR hless hn7 hsw hlt' atj
       go_wp2
       rw[←hw6]
       go_roundg (t'.flat.length+1)
       case measure=>have h9:=uh HG2;have h8:=uh Cb;simp at h9;omega
       case rel=>exact⟨true,t',rfl,by simp,hide (fun h9=>by cases h9),HNF,Ob,Eb⟩
   ·have e:q=n:=by omega
    have HR9:Hid (Ad uj oh w.heap.size wq (.slice (some ⟨g,0,none⟩) n cc) (H8 ks ts)):=hide (by
     have h9:=uh HR
     rw[e,uh HN,aw1 ks ts (uh Yp).2.1] at h9
     rw[(uh Yp).1,uh HN]
     exact h9)
    have hfl:(H8 ks ts).length=n:=by rw[(uh Yp).1,List.length_zipWith,(uh Yp).2.1,Nat.min_self,uh HN]
    have hby:(H8 ks ts).length*160<=140737488355328:=by rw[hfl,uh HN];exact uh HBY
    have a4d:=hide (agn (H8 ks ts) (.slice (some ⟨g,0,none⟩) n cc) wq (afr (uh HR9) hby))
    have HBF:=hide hby
    have mq:=(uh HX).1.cell (i:=0) (v:=.slice (some ⟨g,0,none⟩) n cc) rfl
    have hqI:¬(q:Int)<(n:Int):=by omega
    clear e hfl hby
    go_wp2_with fail
    refine(uh a4d).mono ?_
    rintro e w7 ⟨v7,rfl,anq,hb7⟩
    obtain⟨x7,y7,rfl⟩:=anq.slice
    have Qr:=(uh HX).2.below hb7 (uh HX).2.lt
    have r7:=Qr.cell (i:=0) (v:=.slice none 0 0) rfl
    have z7:=Qr.free 0
    obtain⟨n7,hn7⟩:∃z,z=(H8 ks ts).length:=⟨_,rfl⟩
    rw[←hn7] at anq ⊢
    have zu:Hid (PO (.returned (.agg #[.slice x7 n7 y7])) (w7.setCell ⟨w.heap.size+1,0,none⟩ (.slice x7 n7 y7))∧(w7.setCell ⟨w.heap.size+1,0,none⟩ (.slice x7 n7 y7)).cell? ⟨w.heap.size+1,0,none⟩=some (.slice x7 n7 y7)):=by
     have hkx:Fb 28 w7 (w7.setCell ⟨w.heap.size+1,0,none⟩ (.slice x7 n7 y7)):=Fb.set Qr 0 _
     rw[uh Fh]
     exact hide ⟨⟨_,rfl,afr (anq.Cm zx zy hkx (by decide) (by decide)) (uh HBF),((uh HB).trans (hb7.mono (uh HB).size)).setCell (Nat.le_succ _) _⟩,(Qr.set 0 (.slice x7 n7 y7)).cell (i:=0) rfl⟩
    clear anq hb7 Qr hn7 mq
    go_wp2
    have f9:=(uh zu).2
    exact bodyPost_ret (v:=.agg #[.slice x7 n7 y7]) (by simp[results,Tryz.results5,go_sem,f9]) rfl (uh zu).1
end Go.Proofs.YtlcgnbcgmljpaaaGreat
namespace Go.Proofs.YtlcgnbcgmljpaaaGreat
open Go.RowKit Go.ChangeShapes Go.WideShapes
set_option linter.unusedSimpArgs false
set_option linter.unusedVariables false
section
variable {H:Type} {enc:TypeId × Value->H} {w:World} {spare:Nat->Bool} {held:Bool}
def Fv (t:TypeId) (d:DataW H):Prop:=∀n,n∈d.weights Tryz.prog t->n<=140737488355328
theorem weightsAll_mem {e:TypeId} {l:List (DataW H)} {d:DataW H} (hd:d∈l) {n:Nat} (hn:n∈d.weights Tryz.prog e):n∈DataW.weightsAll Tryz.prog e l:=by
 induction l with
 | nil=>cases hd
 | cons x xs ih =>
  simp only[DataW.weightsAll,List.mem_append]
  rcases List.mem_cons.1 hd with rfl|hd
  ·exact Or.inl hn
  ·exact Or.inr (ih hd)
theorem Hu {α:Type} {sz jh:Nat} {R:Nat->World->List Value->α->Prop} {t e:TypeId} (ht:Tryz.prog.underlying t=some (.slice e)) (hsz:Tryz.prog.cellsOf e=sz) (hby:Tryz.prog.bytesOf e=jh) (h0:0<sz) (h1:0<jh)
  (hel:∀n cs d pl,DataW.trod enc Tryz.prog w 0 spare held n e cs=some (d,pl)->Fv e d->∃x:α,R 0 w cs x)
  {fuel:Nat} {cs:List Value} {y:DataW H × List MemPlace} (h:DataW.trod enc Tryz.prog w 0 spare held fuel t cs=some y) (hw:Fv t y.1):∃v xs,cs=[v]∧bf sz jh R 0 w v xs:=by
 rcases Deep.open_slice ht h with ⟨rfl,_⟩|⟨a,len,cap,m,n,D,Pl,rfl,hb,hl,hm,hmm,rfl,hcl⟩
 ·exact⟨_,[],rfl,none,0,rfl,⟨by simp[Len],Nat.le_refl _⟩,by simp[Len],fun i hi=>absurd hi (Nat.not_lt_zero _)⟩
 ·have hlm:len<=m:=by rw[hmm];split<;>omega
  unfold Fv at hw
  simp only[DataW.weights,ht,hby] at hw
  have hbytes:len*jh<=140737488355328:=by
   have:=hw _ (List.mem_cons_self ..)
   simp only[List.length_map,List.length_range] at this
   exact Nat.le_trans (Nat.mul_le_mul_right _ (Nat.le_add_right _ _)) this
  have hlen:len<=140737488355328:=Nat.le_trans (Nat.le_mul_of_pos_right _ h1) hbytes
  have he:∀i,i<len->∃x:α,∃cs',w.cells? 0 (a.add (i*sz)) sz=some cs'∧R 0 w cs' x:=fun i hi=>by
   obtain⟨cs',hc1,hc2⟩:=hcl i (by omega)
   rw[hsz] at hc1
   obtain⟨x,hx⟩:=hel n cs' (D i) (Pl i) hc2 (fun k hk=>hw k (List.mem_cons_of_mem _ (List.mem_append_left _ (weightsAll_mem (List.mem_map.2 ⟨i,by simpa using hi,rfl⟩) hk))))
   exact⟨x,cs',hc1,hx⟩
  refine⟨_,List.ofFn (fun i:Fin len=>Classical.choose (he i.1 i.2)),rfl,some a,cap,by rw[List.length_ofFn],⟨by unfold Len;rw[List.length_ofFn];exact hbytes,by rw[List.length_ofFn];exact hl⟩,by unfold Len;rw[List.length_ofFn];exact hlen,fun i hi=>?_⟩
  have hi':i<len:=by simpa using hi
  obtain⟨cs',hc,hR⟩:=Classical.choose_spec (he i hi')
  obtain⟨_,hcl',hcell⟩:=World.cells?_some hc
  have hblk:=World.cells?_block hc h0
  obtain⟨b,o,sp⟩:=a
  have hspot:sp=none:=by
   obtain⟨_,cs0,hc0,_⟩:=he 0 (by omega)
   obtain⟨_,hl0,hcell0⟩:=World.cells?_some hc0
   have c0:=hcell0 0 h0
   rw[List.getElem?_eq_getElem (by omega)] at c0
   have:=World.cell?_spot c0
   simpa[Addr.add] using this
  subst hspot
  rw[Addr.add_lit] at hblk
  refine⟨b,o,cs',rfl,Nat.zero_le _,hblk,hcl',fun j hj=>?_,?_⟩
  ·have cj:=hcell j (by omega)
   rw[Addr.add_lit,Addr.add_lit,List.getElem?_eq_getElem hj] at cj
   exact cj
  ·rw[List.getElem_ofFn]
   exact hR
theorem av6 {α:Type} {l:List α} (h:l.length=1):∃a,l=[a]:=by
 match l,h with
 | [a],_=>exact⟨a,rfl⟩
theorem av7 {α:Type} {l:List α} (h:l.length=2):∃a b,l=[a,b]:=by
 match l,h with
 | [a,b],_=>exact⟨a,b,rfl⟩
theorem av8 {α:Type} {l:List α} (h:l.length=3):∃a b c,l=[a,b,c]:=by
 match l,h with
 | [a,b,c],_=>exact⟨a,b,c,rfl⟩
theorem Y7 {n:Int} (h:(Lit.int .i64 n).wf=true):I64 n:=by
 simp[Lit.wf,IntKind.min,IntKind.max,IntKind.signed,IntKind.bits] at h
 exact⟨by omega,by omega⟩
theorem abm {fuel:Nat} {cs:List Value} {y:DataW H × List MemPlace} (h:DataW.trod enc Tryz.prog w 0 spare held fuel 9 cs=some y) (hw:Fv 9 y.1):∃s,cs=[.string s]∧Len s.size:=by
 obtain⟨s,rfl,rfl,_⟩:=DataW.trod_string Tryz.underlying9 h
 refine⟨s,rfl,?_⟩
 have:=hw s.data.toList.length (by simp[DataW.weights])
 rw[Array.length_toList] at this
 exact this
theorem Jj:Tryz.prog.cellsOf 9=1:=by kernel_rfl
theorem Md:Tryz.prog.cellsOf 3=1:=by kernel_rfl
theorem ac0:Tryz.prog.cellsOf 111=1:=by kernel_rfl
theorem aes:Tryz.prog.cellsOf 40=1:=by kernel_rfl
theorem ai0:Tryz.prog.cellsOf 112=1:=by kernel_rfl
theorem Zz:Tryz.prog.cellsOf 170=3:=by kernel_rfl
theorem aeu:Tryz.prog.bytesOf 170=32:=by kernel_rfl
theorem abn:Tryz.prog.bytesOf 9=16:=by kernel_rfl
theorem akv:Tryz.prog.bytesOf 111=24:=by kernel_rfl
theorem alx (n:Nat) (cs:List Value) (d:DataW H) (pl:List MemPlace) (h:DataW.trod enc Tryz.prog w 0 spare held n 170 cs=some (d,pl)) (hw:Fv 170 d):∃x:iw,tu 0 w cs x:=by
 obtain⟨ys,m,_,hx,hl,hyl,hf⟩:=DataW.trod_struct Tryz.underlying170 h
 rw[Zz] at hl
 obtain⟨c0,c1,c2,rfl⟩:=av8 hl
 obtain⟨y0,y1,y2,rfl⟩:=av8 (show ys.length=3 from hyl)
 have f0:DataW.trod enc Tryz.prog w 0 spare held m 3 (([c0,c1,c2].drop 0).take (Tryz.prog.cellsOf 3))=some y0:=hf 0 _ rfl
 rw[Md] at f0
 replace f0:DataW.trod enc Tryz.prog w 0 spare held m 3 [c0]=some y0:=f0
 have f1:DataW.trod enc Tryz.prog w 0 spare held m 3 (([c0,c1,c2].drop 1).take (Tryz.prog.cellsOf 3))=some y1:=hf 1 _ rfl
 rw[Md] at f1
 replace f1:DataW.trod enc Tryz.prog w 0 spare held m 3 [c1]=some y1:=f1
 have f2:DataW.trod enc Tryz.prog w 0 spare held m 9 (([c0,c1,c2].drop 2).take (Tryz.prog.cellsOf 9))=some y2:=hf 2 _ rfl
 rw[Jj] at f2
 replace f2:DataW.trod enc Tryz.prog w 0 spare held m 9 [c2]=some y2:=f2
 simp only[Prod.mk.injEq] at hx
 obtain⟨rfl,rfl⟩:=hx
 unfold Fv at hw
 simp only[List.map_cons,List.map_nil,DataW.weights,Tryz.underlying170,DataW.weightsEach,List.append_nil,List.mem_append] at hw
 have w0:Fv 3 y0.1:=fun k hk=>hw k (Or.inl hk)
 have w1:Fv 3 y1.1:=fun k hk=>hw k (Or.inr (Or.inl hk))
 have w2:Fv 9 y2.1:=fun k hk=>hw k (Or.inr (Or.inr (hk)))
 obtain⟨n0,hc0,_,hs0⟩:=DataW.trod_int Tryz.underlying3 f0
 obtain rfl:c0=.int .i64 n0:=by simpa using hc0
 obtain⟨n1,hc1,_,hs1⟩:=DataW.trod_int Tryz.underlying3 f1
 obtain rfl:c1=.int .i64 n1:=by simpa using hc1
 obtain⟨s2,hc2,hs2⟩:=abm f2 w2
 obtain rfl:c2=.string s2:=by simpa using hc2
 exact⟨⟨n0,n1,s2⟩,rfl,hs2,Y7 hs0,Y7 hs1⟩
theorem ai1 (n:Nat) (cs:List Value) (d:DataW H) (pl:List MemPlace) (h:DataW.trod enc Tryz.prog w 0 spare held n 9 cs=some (d,pl)) (hw:Fv 9 d):∃x:ByteArray,uz 0 w cs x:=by
 obtain⟨s,rfl,hs⟩:=abm h hw
 exact⟨s,rfl,hs⟩
theorem atl (n:Nat) (cs:List Value) (d:DataW H) (pl:List MemPlace) (h:DataW.trod enc Tryz.prog w 0 spare held n 111 cs=some (d,pl)) (hw:Fv 111 d):∃x:List iw,vw 0 w cs x:=by
 obtain⟨v,l,rfl,hs⟩:=Hu (R:=tu) Tryz.underlying111 Zz aeu (by decide) (by decide) (fun n cs d pl h hw=>alx n cs d pl h hw) h hw
 exact⟨l,v,rfl,hs⟩
end
end Go.Proofs.YtlcgnbcgmljpaaaGreat
