import Derived.Test.YtflcnhfakcgkeaaGreatCY1
namespace Go.Proofs.YtflcnhfakcgkeaaGreat
open Go.RowKit
set_option linter.unusedSimpArgs false
set_option linter.unusedVariables false
theorem aqc (M:Il) (n N:Nat) (hn:n<N) (h:M n n=true):diag M N=true:=by
 induction N with
 | zero=>omega
 | succ N ih =>
  unfold diag
  by_cases e:n=N
  ·subst e;rw[h,Bool.or_true]
  ·rw[ih (by omega),Bool.true_or]
theorem att (w:World) (n:Nat):(w.alloc (.cells (madeCells (Value.bool false).cells (n*1)) 4)).rowIs w.heap.size 4 n (fun _=>.bool false):=by
 rw[Nat.mul_one]
 exact World.rowIs_made w (.bool false) n 4
set_option maxRecDepth 20000 in
set_option maxHeartbeats 8000000 in
theorem ak5 (x:ay) (N:Nat) (hNe:x.eqs.length=N) (b1 b2 b3 b4:Option Addr) (c1 c2 c3 c4:Nat) (hsum:x.ins.length+x.outs.length+x.vars.length<=1048576) (w:World) (hni:Iu x b1 b2 b3 c1 c2 c3 w) (h4:bf 4 88 Dt 0 w (.slice b4 N c4) x.eqs)
  (hN1:1<=N) (hN5:N<=500) (hsm:∀e,e∈x.eqs->((dw e).length<=500∧∀c,c∈dw e->c.length<=3000)∧e.lhs.length<=500) (hck:∀nm,(jv (aj x) nm).length<=8) (hnl:∀e,e∈x.eqs->∀nm,nm∈readsOf (aj x) e->Len nm.size) :
  Calls Tryz.prog 70 #[.agg #[.string x.name,.slice b1 x.ins.length c1,.slice b2 x.outs.length c2,.slice b3 x.vars.length c3,.slice b4 N c4]] w (Ans (.bool (Om x)) w):=by
 have Oh:=hide (fun e (he:e∈x.eqs) v1 v2 v3 w1 (hb:Below w.heap.size w w1) h1 h2 h3=>ad5 x b1 b2 b3 b4 c1 c2 c3 N c4 hsum e v1 v2 v3 w1 (hni.stays hb) h1 h2 h3 (hsm e he).2 hck (hsm e he).1.2 (hsm e he).1.1 (hnl e he))
 have HDF:=hide (fun nm w1 (hb:Below w.heap.size w w1)=>aav x.eqs x.name b1 b2 b3 x.ins.length x.outs.length x.vars.length c1 c2 c3 _ nm w1 (h4.stays xq hb))
 have HVB:=hide (fun e (he:e∈x.eqs)=>Nat.add_le_add (ac5 (aj x) e.lhs 8 hck e.lhs.length) (aaj (dw e) 3000 (hsm e he).1.2 (dw e).length))
 have HRL:Hid (∀e,e∈x.eqs->(readsOf (aj x) e).length<=2000000):=fun e he=>by
  have h1:=uh HVB e he
  have h2:=(hsm e he).2
  have h3:(dw e).length*3000<=500*3000:=Nat.mul_le_mul_right _ (hsm e he).1.1
  unfold readsOf
  rw[List.length_append]
  omega
 have HED:Hid (∀i (hi:i<x.eqs.length),edge x i=Xb x.eqs (readsOf (aj x) x.eqs[i]) (readsOf (aj x) x.eqs[i]).length):=fun i hi=>by
  funext j
  unfold edge
  rw[List.getElem?_eq_getElem hi]
 have HCY:Hid (Om x=diag (wK N (edge x) N) N):=by
  show Om x=_
  unfold Om
  rw[hNe]
 have n4:=h4.len'
 have H4:=hide h4
 clear hsm hck hnl hni h4 hsum HVB
 have hA:Below w.heap.size w (w.alloc (.cells #[.string x.name,.slice b1 x.ins.length c1,.slice b2 x.outs.length c2,.slice b3 x.vars.length c3,.slice b4 N c4] 42)):=(Below.refl _ _).alloc (Nat.le_refl _) _
 have hAz:(w.alloc (.cells #[.string x.name,.slice b1 x.ins.length c1,.slice b2 x.outs.length c2,.slice b3 x.vars.length c3,.slice b4 N c4] 42)).heap.size=w.heap.size+1:=by simp
 have hBN:dh (w.alloc (.cells #[.string x.name,.slice b1 x.ins.length c1,.slice b2 x.outs.length c2,.slice b3 x.vars.length c3,.slice b4 N c4] 42)) w.heap.size 42 #[.string x.name,.slice b1 x.ins.length c1,.slice b2 x.outs.length c2,.slice b3 x.vars.length c3,.slice b4 N c4]:=jd w #[.string x.name,.slice b1 x.ins.length c1,.slice b2 x.outs.length c2,.slice b3 x.vars.length c3,.slice b4 N c4] 42
 obtain⟨BX,ku⟩:∃BX:World->Prop,∀w',BX w'↔Below (w.heap.size+1) (w.alloc (.cells #[.string x.name,.slice b1 x.ins.length c1,.slice b2 x.outs.length c2,.slice b3 x.vars.length c3,.slice b4 N c4] 42)) w':=⟨_,fun _=>Iff.rfl⟩
 have jy:Hid (∀w1,BX w1->Below w.heap.size w w1):=fun w1 h=>hA.trans (((ku w1).1 h).mono (by omega))
 have Bq:Hid (∀w1 w2,BX w1->Below w1.heap.size w1 w2->BX w2):=fun w1 w2 h h2=>(ku w2).2 (((ku w1).1 h).trans (h2.mono (by have:=((ku w1).1 h).size;omega)))
 have HX3:Hid (∀w1 w2 v ys,BX w1->iw (Rj N) w1 (w.heap.size+1) v ys->w1.grownBy w2 v.ownBlock->BX w2):=fun w1 w2 v ys h ho hg=>(ku w2).2 (ho.grown ((ku w1).1 h) hg (by have:=((ku w1).1 h).size;omega) (Nat.le_refl _))
 have HX6:Hid (∀w1 w2 R,BX w1->w.heap.size+1<=R->w1.grownBy w2 (some R)->BX w2):=fun w1 w2 R h hR hg=>(ku w2).2 (((ku w1).1 h).grown hg (by have:=((ku w1).1 h).size;omega) (fun k e=>by simp only[Option.some.injEq] at e;omega))
 have Bf:Hid (∀w1,BX w1->w1.cell? ⟨w.heap.size,0,none⟩=some (.string x.name)∧w1.cell? ⟨w.heap.size,1,none⟩=some (.slice b1 x.ins.length c1)∧w1.cell? ⟨w.heap.size,2,none⟩=some (.slice b2 x.outs.length c2)∧w1.cell? ⟨w.heap.size,3,none⟩=some (.slice b3 x.vars.length c3)∧w1.cell? ⟨w.heap.size,4,none⟩=some (.slice b4 N c4)):=fun w1 h=>⟨(hBN.below ((ku w1).1 h) (by omega)).cell (i:=0) (v:=.string x.name) rfl,(hBN.below ((ku w1).1 h) (by omega)).cell (i:=1) (v:=.slice b1 x.ins.length c1) rfl,(hBN.below ((ku w1).1 h) (by omega)).cell (i:=2) (v:=.slice b2 x.outs.length c2) rfl,(hBN.below ((ku w1).1 h) (by omega)).cell (i:=3) (v:=.slice b3 x.vars.length c3) rfl,(hBN.below ((ku w1).1 h) (by omega)).cell (i:=4) (v:=.slice b4 N c4) rfl⟩
 have Vu:Hid (∀w1,BX w1->w.heap.size+1<=w1.heap.size):=fun w1 h=>by have:=((ku w1).1 h).size;omega
 have HX0:Hid (BX ((w.alloc (.cells #[.string x.name,.slice b1 x.ins.length c1,.slice b2 x.outs.length c2,.slice b3 x.vars.length c3,.slice b4 N c4] 42)).alloc (.cells #[] 164))):=(ku _).2 ((Below.refl _ _).alloc (by omega) _)
 have HO0:Hid (iw (Rj N) ((w.alloc (.cells #[.string x.name,.slice b1 x.ins.length c1,.slice b2 x.outs.length c2,.slice b3 x.vars.length c3,.slice b4 N c4] 42)).alloc (.cells #[] 164)) (w.heap.size+1) (.slice (some ⟨w.heap.size+1,0,none⟩) 0 0) []):=by
  have:=iw.start (E:=Rj N) (w.alloc (.cells #[.string x.name,.slice b1 x.ins.length c1,.slice b2 x.outs.length c2,.slice b3 x.vars.length c3,.slice b4 N c4] 42)) (w.heap.size+1) (by omega)
  rw[hAz] at this
  exact this
 obtain⟨q1,q2,q3,q4,q5⟩:=uh Bf _ (uh HX0)
 clear hA hAz hBN ku
 go_enter Tryz.func70,Tryz.ntmps70
 go_wp2
 clear q1 q2 q3 q4 q5
 go_loopg [3,17] N (fun g tv i wr=>∃(k:Nat) (F5:List Nat),k<=N∧g=N-k∧i=.int .i64 k∧F5.length=k∧iw (Rj N) wr (w.heap.size+1) tv F5∧(∀i (hi:i<F5.length),wr.rowIs F5[i] 4 N (fun j=>.bool (edge x i j)))∧(∀b,b∈F5->w.heap.size+1<=b)∧F5.Nodup∧BX wr)
 case atStart=>exact⟨0,[],Nat.zero_le _,by omega,rfl,rfl,uh HO0,fun i hi=>absurd hi (Nat.not_lt_zero _),(fun b hb=>by simp at hb),List.nodup_nil,uh HX0⟩
 case round =>
  obtain⟨k,F5,hk,hg,rfl,hrl,hown,hrow,hlo,hnd,hbx⟩:=hrel
  rename World=>wN
  have HG:=hide hg
  have HOW:=hide hown
  have Py:=hide hrow
  have HLO:=hide hlo
  have Lr:=hide hnd
  have ajq:=hide hrl
  have tu:=hide hbx
  obtain⟨s0,s1,s2,s3,s4⟩:=uh Bf wN hbx
  have hsz:=uh Vu wN hbx
  clear hg hown hrow hlo hnd hbx hrl
  by_cases hlt:k<N
  ·have hlx:k<x.eqs.length:=by omega
   obtain⟨b,o,cs,jr,_,hb,hcs,hc0,hR⟩:=(show ∃b o cs,b4=some ⟨b,o,none⟩∧0<=b∧b<w.heap.size∧cs.length=4∧(∀j (hj:j<cs.length),w.cell? ⟨b,o+k*4+j,none⟩=some cs[j])∧Dt 0 w cs x.eqs[k] from by
    obtain⟨a,cap,hv,_,_,hx⟩:=uh H4
    simp only[Value.slice.injEq] at hv
    obtain⟨rfl,_,_⟩:=hv
    exact hx k hlx)
   subst jr
   obtain⟨l0,k0,g0,rfl,_,hl0,hk0,hg0⟩:=hR
   have hc:∀j (hj:j<4),wN.cell? ⟨b,o+k*4+j,none⟩=some _:=fun j hj=>by rw[(uh jy wN (uh tu)).cell (p:=⟨b,_,none⟩) hb];exact hc0 j hj
   have r0:=hc 0 (by simp)
   have r1:=hc 1 (by simp)
   have r2:=hc 2 (by simp)
   have r3:=hc 3 (by simp)
   simp only[Nat.add_zero,List.getElem_cons_zero,List.getElem_cons_succ] at r0 r1 r2 r3
   have hmem:x.eqs[k]∈x.eqs:=List.getElem_mem hlx
   have HCR:=hide (fun w1 (hb:Below w.heap.size w w1)=>uh Oh x.eqs[k] hmem l0 k0 g0 w1 hb (hl0.stays uw hb) (hk0.stays je hb) (hg0.stays lq hb))
   have a5x:=uh HRL x.eqs[k] hmem
   have HEK:=hide (uh HED k hlx)
   obtain⟨la,lc,rfl⟩:=hl0.shape
   obtain⟨ka,kc,rfl⟩:=hk0.shape
   obtain⟨ga,gc,rfl⟩:=hg0.shape
   clear hc hc0 hcs hl0 hk0 hg0 hmem
   generalize readsOf (aj x) x.eqs[k]=nms at *
   generalize x.eqs[k].lhs.length=e1 at *
   generalize x.eqs[k].code.length=e2 at *
   generalize x.eqs[k].args.length=e3 at *
   generalize x.eqs[k].call=Hw at *
   obtain⟨w2,hw2⟩:∃w2,w2=(wN.alloc (.cells #[.slice la e1 lc,.slice ka e2 kc,.string Hw,.slice ga e3 gc] 48)).alloc (.cells (madeCells (Value.bool false).cells (N*1)) 4):=⟨_,rfl⟩
   have hb2:Below wN.heap.size wN w2:=by rw[hw2];exact((Below.refl _ _).alloc (Nat.le_refl _) _).alloc (by simp) _
   have hs2:w2.heap.size=wN.heap.size+2:=by rw[hw2];simp
   have hR2:w2.rowIs (wN.heap.size+1) 4 N (fun _=>.bool false):=by
    rw[hw2]
    have:=att (wN.alloc (.cells #[.slice la e1 lc,.slice ka e2 kc,.string Hw,.slice ga e3 gc] 48)) N
    simpa using this
   have hbx2:=uh Bq _ _ (uh tu) hb2
   have azh:=hide (uh HCR w2 (uh jy _ hbx2))
   have hmk:=Am (P:=Tryz.prog) 164 4 (.bool false) 1 1 Tryz.underlying164 (by kernel_rfl) N (by omega) (by omega) (wN.alloc (.cells #[.slice la e1 lc,.slice ka e2 kc,.string Hw,.slice ga e3 gc] 48))
   have t0:∀j v,#[Value.slice la e1 lc,.slice ka e2 kc,.string Hw,.slice ga e3 gc][j]?=some v->w2.cell? ⟨wN.heap.size,j,none⟩=some v:=fun j v hv=>by
    rw[hw2,World.cell?_alloc_lt _ _ _ (by simp),World.cell?_alloc_at _ _ _ _ rfl]
    exact hv
   have u0:=t0 0 _ rfl
   have u1:=t0 1 _ rfl
   have u2:=t0 2 _ rfl
   have u3:=t0 3 _ rfl
   obtain⟨y0,y1,y2,y3,y4⟩:=uh Bf w2 hbx2
   have Jo:=hide hbx2
   have HR2:=hide hR2
   have HB2:=hide hb2
   have hlt':(k:Int)<(N:Int):=by omega
   have a5y:w.heap.size<wN.heap.size:=by omega
   clear t0 hR2 hb2 hbx2 HCR Oh
   obtain⟨aT,cT,rfl⟩:=(uh HOW).slice
   simp only[World.size_alloc] at hmk
   rw[←hw2] at hmk
   clear hw2
   go_wp2_with fail
   refine(uh azh).mono ?_
   rintro e w3 ⟨vn,rfl,hnS,hb3⟩
   have azi:Below wN.heap.size wN w3:=(uh HB2).trans (hb3.mono (uh HB2).size)
   have Y8:=hide (uh Bq _ _ (uh Jo) hb3)
   have HR3:=hide (O6 (uh HR2) hb3)
   have HB3:=hide azi
   obtain⟨an,cn,rfl⟩:=hnS.shape
   obtain⟨_,_,hvn,_,hnn,hnx⟩:=hnS
   simp only[Value.slice.injEq] at hvn
   obtain⟨rfl,_,rfl⟩:=hvn
   have xw:=hide hnx
   clear hnx hnn hb3 azi u0 u1 u2 u3 y0 y1 y2 y3 y4 s0 s1 s2 s3 s4 r0 r1 r2 r3 hmk azh
   go_wp2
   go_loopg [29] nms.length (fun g i wr=>∃(m:Nat),m<=nms.length∧g=nms.length-m∧i=.int .i64 m∧w3.grownBy wr (some (wN.heap.size+1))∧wr.rowIs (wN.heap.size+1) 4 N (fun j=>.bool (Xb x.eqs nms m j)))
   case atStart=>exact⟨0,Nat.zero_le _,by omega,rfl,World.grownBy.refl _ _,(uh HR3).congr fun i _=>by simp[Xb]⟩
   case round =>
    obtain⟨m,hm,hgm,rfl,hgr,hri⟩:=hrel
    rename World=>wM
    have Hy:=hide hgm
    have HGR:=hide hgr
    have HRI:=hide hri
    have ajr:=uh HX6 _ _ _ (uh Y8) (by omega) hgr
    have afg:=hide ajr
    clear hgm
    by_cases Aj:m<nms.length
    ·obtain⟨s0,s1,s2,s3,s4⟩:=uh Bf wM ajr
     obtain⟨bn,on,cs,jr,a3b,hbn,hcs,hc0,hR⟩:=uh xw m Aj
     subst jr
     obtain⟨rfl,hsn⟩:=hR
     have r0:wM.cell? ⟨bn,on+m,none⟩=some (.string nms[m]):=by
      refine hgr.cell (by simpa using hc0 0 (by simp)) ?_
      simp only[ne_eq,Option.some.injEq]
      omega
     have HST:=hide (aob x.eqs nms m Aj)
     have HD:=hide (uh HDF nms[m])
     have hdb:=abr x.eqs nms[m]
     have ahe:(m:Int)<(nms.length:Int):=by omega
     clear hc0 hcs hgr hri hsn
     generalize nms[m]=nm at *
     by_cases hd:Ce x.eqs nm<0
     ·have dd:decide (0<=Ce x.eqs nm)=false:=decide_eq_false (by omega)
      have HNJ:Hid (∀j:Nat,(Ce x.eqs nm == (j:Int))=false):=fun j=>by rw[beq_eq_false_iff_ne];omega
      have HD1:=hide (uh HD wM (uh jy _ (uh afg)))
      generalize Ce x.eqs nm=di at *
      go_wp2_with fail
      refine(uh HD1).mono ?_
      rintro e w5 ⟨rfl,hb5⟩
      have Qu:=hide hb5
      clear hb5
      go_wp2
      go_roundg (nms.length-(m+1))
      case measure=>have:=uh Hy;omega
      case rel=>exact⟨m+1,by omega,rfl,by go_num,C9 (uh HGR) (below_grown (uh Qu) _),(O6 (uh HRI) (uh Qu)).congr fun j _=>by rw[uh HST,uh HNJ,Bool.or_false]⟩
     ·obtain⟨d,hdd⟩:=Int.eq_ofNat_of_zero_le (show 0<=Ce x.eqs nm by omega)
      have HD1:=hide (uh HD wM (uh jy _ (uh afg)))
      have hdN:d<N:=by omega
      rw[hdd] at HST HD HD1
      have HDx:=hide hdd
      clear hdb hd hdd
      have a5z:(d:Int)<(N:Int):=by omega
      go_wp2_with fail
      refine(uh HD1).mono ?_
      rintro e w5 ⟨rfl,hb5⟩
      have I5:=uh Bq _ _ (uh afg) hb5
      have anz:=hide I5
      obtain⟨y0,y1,y2,y3,y4⟩:=uh Bf w5 I5
      have HD2:=hide (uh HD w5 (uh jy _ I5))
      have HG5:=hide (C9 (uh HGR) (below_grown hb5 _))
      have Us:=hide (O6 (uh HRI) hb5)
      clear hb5 I5 s0 s1 s2 s3 s4
      go_wp2_with fail
      refine(uh HD2).mono ?_
      rintro e w6 ⟨rfl,hb6⟩
      have HG6:=hide (C9 (uh HG5) (below_grown hb6 _))
      have hR6:=O6 (uh Us) hb6
      have HR6:=hide hR6
      have z0:=hR6.cell hdN
      have z1:=hR6.frozen d
      clear hb6 hR6 y0 y1 y2 y3 y4
      go_wp2
      go_roundg (nms.length-(m+1))
      case measure=>have:=uh Hy;omega
      case rel=>exact⟨m+1,by omega,rfl,by go_num,C9 (uh HG6) (H7 w6 ⟨wN.heap.size+1,d,none⟩ _),((uh HR6).set d (.bool true)).congr fun j _=>by
       rw[uh HST]
       by_cases e:j=d
       ·subst e;simp
       ·rw[if_neg e]
        have:((d:Int) == (j:Int))=false:=by rw[beq_eq_false_iff_ne];omega
        rw[this,Bool.or_false]⟩
    ·have e:m=nms.length:=by omega
     subst e
     have av1:iw (Rj N) wM (w.heap.size+1) (.slice aT F5.length cT) F5:=((uh HOW).below (uh HB3)).keptBut hgr (by
      intro e
      have:=(uh HOW).shape
      rcases this with ⟨h,_⟩|⟨g,cap,h,_,hg,_⟩
      ·rw[h] at e;cases e
      ·rw[h] at e
       simp only[Value.ownBlock,Option.some.injEq] at e
       omega)
     have av3:∀i (hi:i<F5.length),wM.rowIs F5[i] 4 N (fun j=>.bool (edge x i j)):=fun i hi=>Xm (O6 (uh Py i hi) (uh HB3)) hgr (by
      have:=(uh Py i hi).lt
      simp only[ne_eq,Option.some.injEq]
      omega)
     have hnew:wM.rowIs (wN.heap.size+1) 4 N (fun j=>.bool (edge x k j)):=hri.congr fun j _=>by rw[uh HEK]
     have hal:Below wM.heap.size wM (wM.alloc (.cells #[.slice (some ⟨wN.heap.size+1,0,none⟩) N N] 164)):=(Below.refl _ _).alloc (Nat.le_refl _) _
     have W9:=hide (av1.below hal)
     have av4:Hid (∀i (hi:i<F5.length),(wM.alloc (.cells #[.slice (some ⟨wN.heap.size+1,0,none⟩) N N] 164)).rowIs F5[i] 4 N (fun j=>.bool (edge x i j))):=fun i hi=>(av3 i hi).alloc _
     have av5:=hide (hnew.alloc (.cells #[.slice (some ⟨wN.heap.size+1,0,none⟩) N N] 164))
     have HXA:=hide (uh Bq _ _ ajr hal)
     have hsM:=uh Vu _ ajr
     clear av1 av3 hnew hal hgr hri ajr
     go_wp2_with (at_builtin;go_must (refine Du (Rj N) _ rfl _ _ rfl (w.heap.size+1) _ F5 rfl (uh W9) wM.heap.size (wN.heap.size+1) rfl (fun j u hu=>by rw[World.cell?_alloc_at _ _ _ _ rfl];simpa[Rj] using hu) (by have:=uh ajq;simp[Rj];omega) (by simp;omega) ?_))
     intro v9 w9 Jp Ku
     have HO9:=hide Jp
     have HX9:=hide (uh HX3 _ _ _ _ (uh HXA) (uh W9) Ku)
     have a3c:Hid (∀i (hi:i<(F5++[wN.heap.size+1]).length),w9.rowIs (F5++[wN.heap.size+1])[i] 4 N (fun j=>.bool (edge x i j))):=fun i hi=>by
      by_cases h:i<F5.length
      ·rw[List.getElem_append_left h]
       exact Xm (uh av4 i h) Ku ((uh W9).ajm (uh av4 i h))
      ·have hrl:=uh ajq
       have e:i=k:=by rw[List.length_append] at hi;simp at hi;omega
       subst e
       rw[List.getElem_append_right (by omega)]
       simp only[List.getElem_singleton]
       exact Xm (uh av5) Ku ((uh W9).ajm (uh av5))
     have a3d:Hid (∀b,b∈F5++[wN.heap.size+1]->w.heap.size+1<=b):=fun b hb=>by
      rcases List.mem_append.1 hb with h|h
      ·exact uh HLO b h
      ·simp at h;omega
     have a3e:Hid ((F5++[wN.heap.size+1]).Nodup):=by
      show (F5++[wN.heap.size+1]).Nodup
      rw[List.nodup_append]
      refine⟨uh Lr,by simp,fun a ha b hb=>?_⟩
      obtain⟨i,hi,rfl⟩:=List.getElem_of_mem ha
      have:=(uh Py i hi).lt
      simp only[List.mem_singleton] at hb
      omega
     clear Jp Ku
     go_wp2
     go_roundg (N-(k+1))
     case measure=>have:=uh HG;omega
     case rel=>exact⟨k+1,F5++[wN.heap.size+1],by omega,rfl,by go_num,by rw[List.length_append,uh ajq];rfl,uh HO9,uh a3c,uh a3d,uh a3e,uh HX9⟩
  ·have e:N=k:=by omega
   subst e
   obtain⟨tb,cap,rfl,htb,htl,azj⟩:=aoc (M:=edge x) (uh ajq) hN1 hN5 (uh HOW) (uh Py) (uh HLO) (uh Lr)
   have HM0:=hide azj
   generalize (fun i=>F5.getD i 0)=Jj at *
   clear azj HOW Py HLO Lr ajq HG Oh HDF HED HRL H4 s0 s1 s2 s3 s4
   go_wp2
   go_loopg [50] N (fun g i wr=>∃(k:Nat),k<=N∧g=N-k∧i=.int .i64 k∧Ud wr (w.heap.size+1) tb Jj N (wK N (edge x) k)∧BX wr)
   case atStart=>exact⟨0,Nat.zero_le _,by omega,rfl,uh HM0,uh tu⟩
   case round =>
    obtain⟨k,hk,hgk,rfl,hmk,hbk⟩:=hrel
    rename World=>wA
    have HGK:=hide hgk
    have Ef:=hide hmk
    have Ob:=hide hbk
    clear hgk hmk hbk
    by_cases hlk:k<N
    ·have HK1:Hid (wK N (edge x) (k+1)=wI N k (wK N (edge x) k) N):=rfl
     generalize wK N (edge x) k=M at *
     have a6a:(k:Int)<(N:Int):=by omega
     go_wp2
     go_loopg [55] N (fun g i wr=>∃(i0:Nat),i0<=N∧g=N-i0∧i=.int .i64 i0∧Ud wr (w.heap.size+1) tb Jj N (wI N k M i0)∧BX wr)
     case atStart=>exact⟨0,Nat.zero_le _,by omega,rfl,uh Ef,uh Ob⟩
     case round =>
      obtain⟨i0,hi0,hgi,rfl,hmi,hbi⟩:=hrel
      rename World=>wB
      have HGI:=hide hgi
      have HMI:=hide hmi
      have Md:=hide hbi
      clear hgi hmi hbi
      by_cases V3:i0<N
      ·have HI1:Hid (wI N k M (i0+1)=wJ k i0 (wI N k M i0) N):=rfl
       generalize wI N k M i0=M1 at *
       have a6b:(i0:Int)<(N:Int):=by omega
       go_wp2
       go_loopg [60] N (fun g j wr=>∃(j0:Nat),j0<=N∧g=N-j0∧j=.int .i64 j0∧Ud wr (w.heap.size+1) tb Jj N (wJ k i0 M1 j0)∧BX wr)
       case atStart=>exact⟨0,Nat.zero_le _,by omega,rfl,uh HMI,uh Md⟩
       case round =>
        obtain⟨j0,hj0,hgj,rfl,hmj,hbj⟩:=hrel
        rename World=>wC
        have Oe:=hide hgj
        have HMJ:=hide hmj
        have Lj:=hide hbj
        clear hgj hbj
        by_cases hlj:j0<N
        ·have HJ1:Hid (wJ k i0 M1 (j0+1)=Iq k i0 j0 (wJ k i0 M1 j0)):=rfl
         generalize wJ k i0 M1 j0=M2 at *
         have a6c:(j0:Int)<(N:Int):=by omega
         have t1:=hmj.aec i0 V3
         have t2:=hmj.aec k hlk
         have g1:=hmj.get V3 hlk
         have g2:=hmj.get hlk hlj
         have g3:=hmj.get V3 hlj
         have g4:=(hmj.row i0 V3).frozen j0
         have hrl:=hmj.lo i0 V3
         have HST:Hid (Ud (wC.setCell ⟨Jj i0,j0,none⟩ (.bool true)) (w.heap.size+1) tb Jj N (upd M2 i0 j0)):=hmj.set V3 hlj
         have Gj:=hide (uh HX6 _ _ _ (uh Lj) hrl (H7 wC ⟨Jj i0,j0,none⟩ (.bool true)))
         clear hmj
         cases hA:M2 i0 k
         ·have HE:Hid (Iq k i0 j0 M2=M2):=by
           show Iq k i0 j0 M2=M2
           unfold Iq
           rw[hA]
           rfl
          rw[hA] at g1
          clear hA
          generalize Jj i0=ri at *
          generalize Jj k=rk at *
          go_wp2
          go_roundg (N-(j0+1))
          case measure=>have:=uh Oe;omega
          case rel=>exact⟨j0+1,by omega,rfl,by go_num,by rw[uh HJ1,uh HE];exact uh HMJ,uh Lj⟩
         ·cases hB:M2 k j0
          ·have HE:Hid (Iq k i0 j0 M2=M2):=by
            show Iq k i0 j0 M2=M2
            unfold Iq
            rw[hA,hB]
            rfl
           rw[hA] at g1
           rw[hB] at g2
           clear hA hB
           generalize Jj i0=ri at *
           generalize Jj k=rk at *
           go_wp2
           go_roundg (N-(j0+1))
           case measure=>have:=uh Oe;omega
           case rel=>exact⟨j0+1,by omega,rfl,by go_num,by rw[uh HJ1,uh HE];exact uh HMJ,uh Lj⟩
          ·have HE:Hid (Iq k i0 j0 M2=upd M2 i0 j0):=by
            show Iq k i0 j0 M2=upd M2 i0 j0
            unfold Iq
            rw[hA,hB]
            rfl
           rw[hA] at g1
           rw[hB] at g2
           clear hA hB
           go_wp2
           go_roundg (N-(j0+1))
           case measure=>have:=uh Oe;omega
           case rel=>exact⟨j0+1,by omega,rfl,by go_num,by rw[uh HJ1,uh HE];exact uh HST,uh Gj⟩
        ·have e:N=j0:=by omega
         subst e
         clear hmj
         go_wp2
         go_roundg (N-(i0+1))
         case measure=>have:=uh HGI;omega
         case rel=>exact⟨i0+1,by omega,rfl,by go_num,by rw[uh HI1];exact uh HMJ,uh Lj⟩
      ·have e:N=i0:=by omega
       subst e
       go_wp2
       go_roundg (N-(k+1))
       case measure=>have:=uh HGK;omega
       case rel=>exact⟨k+1,by omega,rfl,by go_num,by rw[uh HK1];exact uh HMI,uh Md⟩
    ·have e:N=k:=by omega
     subst e
     have HDT:=hide (fun n hn h=>aqc (wK N (edge x) N) n N hn h)
     generalize wK N (edge x) N=M at *
     go_wp2
     go_loopg [90] N (fun g i wr=>∃(n:Nat),n<=N∧g=N-n∧i=.int .i64 n∧diag M n=false∧wr=wA)
     case atStart=>exact⟨0,Nat.zero_le _,by omega,rfl,rfl,rfl⟩
     case round =>
      obtain⟨n,hn,hgn,rfl,hdn,hw9⟩:=hrel
      obtain rfl:=hw9.symm
      have HGN:=hide hgn
      have HDN:=hide hdn
      clear hgn hdn
      by_cases hln:n<N
      ·have a6d:(n:Int)<(N:Int):=by omega
       have t1:=(uh Ef).aec n hln
       have g1:=(uh Ef).get hln hln
       cases hA:M n n
       ·have HD2:Hid (diag M (n+1)=false):=by
         show diag M (n+1)=false
         unfold diag
         rw[hA,uh HDN]
         rfl
        rw[hA] at g1
        clear hA
        generalize Jj n=ri at *
        go_wp2
        go_roundg (N-(n+1))
        case measure=>have:=uh HGN;omega
        case rel=>exact⟨n+1,by omega,rfl,by go_num,uh HD2,rfl⟩
       ·have HD2:=hide (uh HDT n hln hA)
        rw[hA] at g1
        clear hA
        generalize Jj n=ri at *
        go_wp2
        go_ret
        exact⟨gu ((uh HD2).symm.trans (uh HCY).symm),uh jy _ (uh Ob)⟩
      ·have e:N=n:=by omega
       subst e
       go_wp2
       go_ret
       exact⟨gu ((uh HDN).symm.trans (uh HCY).symm),uh jy _ (uh Ob)⟩
end Go.Proofs.YtflcnhfakcgkeaaGreat
