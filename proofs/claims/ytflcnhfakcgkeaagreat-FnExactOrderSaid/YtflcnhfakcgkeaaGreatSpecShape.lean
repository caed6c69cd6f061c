import Derived.Test.YtflcnhfakcgkeaaGreatWI1
import Derived.Test.YtflcnhfakcgkeaaGreatSpecEq
import Derived.Test.YtflcnhfakcgkeaaGreatOwn
namespace Go.Proofs.YtflcnhfakcgkeaaGreat
open Go.RowKit
set_option linter.unusedSimpArgs false
set_option linter.unusedVariables false
set_option maxRecDepth 100000 in
set_option maxHeartbeats 16000000 in
theorem ah5 (ns:List ay) (v:Value) (w:World) (h1:bf 5 112 o7 0 w v ns) (hsm:∀n,n∈ns->n.ins.length+n.outs.length+n.vars.length<=1048576) :
  Calls Tryz.prog 37 #[.agg #[v]] w (Ans (.bool (Ar ns)) w):=by
 have n1:=h1.len'
 obtain⟨b0,c0,rfl⟩:=h1.shape
 obtain⟨_,_,hv0,_,_,hx⟩:=h1
 simp only[Value.slice.injEq] at hv0
 obtain⟨rfl,_,rfl⟩:=hv0
 have HX:=hide hx
 have Uw:=hide hsm
 clear hx hsm
 have B0:=hide ((Below.refl w.heap.size w).alloc (Nat.le_refl _) (.cells #[.slice b0 ns.length c0] 30))
 simp only[Ar]
 by_cases g1:ns.length<1
 ·have e:decide (1<=ns.length∧ns.length<=200)=false:=by rw[decide_eq_false_iff_not];omega
  rw[e,Bool.false_and]
  have d1:decide ((ns.length:Int)<1)=true:=by rw[decide_eq_true_iff];omega
  clear e
  go_enter Tryz.func37,Tryz.ntmps37
  go_wp2
  go_ret
  exact⟨rfl,uh B0⟩
 have d1:decide ((ns.length:Int)<1)=false:=by rw[decide_eq_false_iff_not];omega
 by_cases g2:200<ns.length
 ·have e:decide (1<=ns.length∧ns.length<=200)=false:=by rw[decide_eq_false_iff_not];omega
  rw[e,Bool.false_and]
  have d2:decide (200<(ns.length:Int))=true:=by rw[decide_eq_true_iff];omega
  clear e
  go_enter Tryz.func37,Tryz.ntmps37
  go_wp2
  go_ret
  exact⟨rfl,uh B0⟩
 have d2:decide (200<(ns.length:Int))=false:=by rw[decide_eq_false_iff_not];omega
 have e:decide (1<=ns.length∧ns.length<=200)=true:=by rw[decide_eq_true_iff];omega
 rw[e,Bool.true_and]
 clear e
 go_enter Tryz.func37,Tryz.ntmps37
 go_wp2
 go_loopg [25] ns.length (fun g i wr=>∃(k:Nat),k<=ns.length∧g=ns.length-k∧i=.int .i64 k∧Below w.heap.size w wr∧∀j (h:j<ns.length),j<k->qw ns[j]=true)
 case atStart=>exact⟨0,Nat.zero_le _,by omega,rfl,uh B0,fun j _ h=>absurd h (Nat.not_lt_zero _)⟩
 case round =>
  obtain⟨k,hk,hg,rfl,Xt,hall⟩:=hrel
  rename World=>wN
  have HG:=hide hg
  have HA:=hide hall
  have Cj:=hide Xt
  clear hg hall
  by_cases hlt:k<ns.length
  case neg =>
   have HT:Hid (ns.all qw=true):=by
    show ns.all qw=true
    rw[List.all_eq_true]
    intro x hx
    obtain⟨j,hj,rfl⟩:=List.getElem_of_mem hx
    exact uh HA j hj (by omega)
   go_wp2
   go_ret
   exact⟨gu (uh HT).symm,Xt⟩
  obtain⟨b,o,cs,jr,_,hb,hcs,hc,hR⟩:=uh HX k hlt
  subst jr
  have hR:=jk.stays _ _ _ _ _ Xt hR
  have hc:∀j (hj:j<cs.length),wN.cell? ⟨b,o+k*5+j,none⟩=some cs[j]:=fun j hj=>by rw[Xt.cell (p:=⟨b,_,none⟩) hb];exact hc j hj
  have afz:=uh Uw ns[k] (List.getElem_mem hlt)
  have Jz:Hid (qw ns[k]=false->ns.all qw=false):=fun h=>by
   rw[List.all_eq_false]
   exact⟨ns[k],List.getElem_mem hlt,by rw[h];decide⟩
  have ao8:Hid (qw ns[k]=true->∀j (h:j<ns.length),j<k+1->qw ns[j]=true):=fun hc j h h1=>by
   by_cases e:j=k
   ·subst e;exact hc
   ·exact uh HA j h (by omega)
  clear Xt
  generalize ns[k]=nd at *
  obtain⟨s,ins,outs,vars,eqs⟩:=nd
  obtain⟨ni,no,nv,ne,rfl,hsn,q1,q2,q3,q4⟩:=hR
  simp only at hsn q1 q2 q3 q4 afz
  have l1:=q1.len'
  have l2:=q2.len'
  have l3:=q3.len'
  have l4:=q4.len'
  obtain⟨b1,c1,rfl⟩:=q1.shape
  obtain⟨b2,c2,rfl⟩:=q2.shape
  obtain⟨b3,c3,rfl⟩:=q3.shape
  obtain⟨b4,c4,rfl⟩:=q4.shape
  have G1:=hide q1
  have G2:=hide q2
  have G3:=hide q3
  have G4:=hide q4
  have y0:=hc 0 (by simp)
  have y1:=hc 1 (by simp)
  have y2:=hc 2 (by simp)
  have y3:=hc 3 (by simp)
  have y4:=hc 4 (by simp)
  simp only[Nat.mul_one,Nat.add_zero,List.getElem_cons_zero,List.getElem_cons_succ] at y0 y1 y2 y3 y4
  clear q1 q2 q3 q4 hc hcs
  have BN0:=hide ((Below.refl wN.heap.size wN).alloc (Nat.le_refl _) (.cells #[.string s,.slice b1 ins.length c1,.slice b2 outs.length c2,.slice b3 vars.length c3,.slice b4 eqs.length c4] 42))
  go_wp2_with fail
  refine(agw ⟨s,ins,outs,vars,eqs⟩ _ _ _ _ _ ((uh G1).stays ji (uh BN0)) ((uh G2).stays ji (uh BN0)) ((uh G3).stays ji (uh BN0)) afz).mono ?_
  rintro e w1 ⟨vv,rfl,hVS,hb1⟩
  simp only at hVS
  have Gq:=hide (Vy hb1)
  have B1:Hid (Below w.heap.size w w1):=(uh Cj).trans ((uh BN0).mono (uh Cj).size |>.trans (hb1.mono (by have:=(uh Cj).size;simp;omega)))
  have U6:Hid (Below wN.heap.size wN w1):=(uh BN0).trans (hb1.mono (by simp))
  clear hb1 y0 y1 y2 y3 y4
  have hvl:(ins++outs++vars).length=ins.length+outs.length+vars.length:=by rw[List.length_append,List.length_append]
  generalize hvs:ins++outs++vars=vs at *
  have HVE:=hide hvs
  have HVL:=hide hvl
  obtain⟨bv,cv,rfl⟩:=hVS.shape
  obtain⟨_,_,hvv,_,hvn,Gw⟩:=hVS
  simp only[Value.slice.injEq] at hvv
  obtain⟨rfl,_,rfl⟩:=hvv
  unfold Len at hvn
  have Jf:=hide Gw
  clear hvs hvl Gw
  have ka0:w1.cell? ⟨wN.heap.size,0,none⟩=some (.string s):=by rw[ou (B:=0) (uh Gq) 0];rfl
  have ka1:w1.cell? ⟨wN.heap.size,1,none⟩=some (.slice b1 ins.length c1):=by rw[ou (B:=0) (uh Gq) 1];rfl
  have ka2:w1.cell? ⟨wN.heap.size,2,none⟩=some (.slice b2 outs.length c2):=by rw[ou (B:=0) (uh Gq) 2];rfl
  have ka4:w1.cell? ⟨wN.heap.size,4,none⟩=some (.slice b4 eqs.length c4):=by rw[ou (B:=0) (uh Gq) 4];rfl
  go_wp2_with fail
  refine(Ah s _ hsn).mono ?_
  rintro e w2 ⟨rfl,hb2⟩
  have Jo:Hid (Below (wN.heap.size+1) _ w2):=(uh Gq).trans (hb2.mono (by have:=(uh Gq).size;simp at this;omega))
  have B2:Hid (Below w.heap.size w w2):=(uh B1).trans (hb2.mono (uh B1).size)
  have ao9:=hide hb2
  clear hb2 ka0 ka1 ka2 ka4
  have kb0:w2.cell? ⟨wN.heap.size,0,none⟩=some (.string s):=by rw[ou (B:=0) (uh Jo) 0];rfl
  have kb1:w2.cell? ⟨wN.heap.size,1,none⟩=some (.slice b1 ins.length c1):=by rw[ou (B:=0) (uh Jo) 1];rfl
  have kb2:w2.cell? ⟨wN.heap.size,2,none⟩=some (.slice b2 outs.length c2):=by rw[ou (B:=0) (uh Jo) 2];rfl
  have kb4:w2.cell? ⟨wN.heap.size,4,none⟩=some (.slice b4 eqs.length c4):=by rw[ou (B:=0) (uh Jo) 4];rfl
  cases hnm:nameB s
  ·have HF:=hide (uh Jz (akv ⟨s,ins,outs,vars,eqs⟩ hnm))
   go_wp2
   go_ret
   exact⟨gu (uh HF).symm,uh B2⟩
  by_cases g3:outs.length<1
  ·have dd:decide ((outs.length:Int)<1)=true:=by rw[decide_eq_true_iff];omega
   have HF:=hide (uh Jz (Uk ⟨s,ins,outs,vars,eqs⟩ (by simp only;omega)))
   go_wp2
   go_ret
   exact⟨gu (uh HF).symm,uh B2⟩
  have d3:decide ((outs.length:Int)<1)=false:=by rw[decide_eq_false_iff_not];omega
  by_cases g4:500<vs.length
  ·have dd:decide (500<(vs.length:Int))=true:=by rw[decide_eq_true_iff];omega
   have HF:=hide (uh Jz (Uk ⟨s,ins,outs,vars,eqs⟩ (by have:=uh HVL;simp only;omega)))
   go_wp2
   go_ret
   exact⟨gu (uh HF).symm,uh B2⟩
  have d4:decide (500<(vs.length:Int))=false:=by rw[decide_eq_false_iff_not];omega
  by_cases g5:eqs.length<1
  ·have dd:decide ((eqs.length:Int)<1)=true:=by rw[decide_eq_true_iff];omega
   have HF:=hide (uh Jz (Uk ⟨s,ins,outs,vars,eqs⟩ (by simp only;omega)))
   go_wp2
   go_ret
   exact⟨gu (uh HF).symm,uh B2⟩
  have d5:decide ((eqs.length:Int)<1)=false:=by rw[decide_eq_false_iff_not];omega
  by_cases g6:500<eqs.length
  ·have dd:decide (500<(eqs.length:Int))=true:=by rw[decide_eq_true_iff];omega
   have HF:=hide (uh Jz (Uk ⟨s,ins,outs,vars,eqs⟩ (by simp only;omega)))
   go_wp2
   go_ret
   exact⟨gu (uh HF).symm,uh B2⟩
  have d6:decide (500<(eqs.length:Int))=false:=by rw[decide_eq_false_iff_not];omega
  go_wp2
  go_loopg [60] vs.length (fun g i wr=>∃(q:Nat),q<=vs.length∧g=vs.length-q∧i=.int .i64 q∧Below w2.heap.size w2 wr∧∀j (h:j<vs.length),j<q->U2 (ins.length+outs.length) j vs[j]=true)
  case atStart=>exact⟨0,Nat.zero_le _,by omega,rfl,Below.refl _ _,fun j _ h=>absurd h (Nat.not_lt_zero _)⟩
  case round =>
   obtain⟨q,hq,hg2,rfl,Ua,awg⟩:=hrel
   rename World=>wq
   have HG2:=hide hg2
   have HAQ:=hide awg
   have Ik:=hide Ua
   have BQ:Hid (Below w.heap.size w wq):=(uh B2).trans (Ua.mono (uh B2).size)
   have af0:Hid (Below (wN.heap.size+1) _ wq):=(uh Jo).trans (Ua.mono (by have:=(uh Jo).size;simp at this;omega))
   clear hg2 awg Ua kb0 kb1 kb2 kb4
   have kc0:wq.cell? ⟨wN.heap.size,0,none⟩=some (.string s):=by rw[ou (B:=0) (uh af0) 0];rfl
   have kc1:wq.cell? ⟨wN.heap.size,1,none⟩=some (.slice b1 ins.length c1):=by rw[ou (B:=0) (uh af0) 1];rfl
   have kc2:wq.cell? ⟨wN.heap.size,2,none⟩=some (.slice b2 outs.length c2):=by rw[ou (B:=0) (uh af0) 2];rfl
   have kc4:wq.cell? ⟨wN.heap.size,4,none⟩=some (.slice b4 eqs.length c4):=by rw[ou (B:=0) (uh af0) 4];rfl
   have hNq:wN.heap.size<wq.heap.size:=by have:=(uh af0).size;simp at this;omega
   by_cases Y0:q<vs.length
   ·obtain⟨bq,oq,csq,jr,_,hbq,au7,hcq,hRq⟩:=uh Jf q Y0
    subst jr
    have H1Q:Below w1.heap.size w1 wq:=(uh ao9).trans ((uh Ik).mono (uh ao9).size)
    have hRq:=ji.stays _ _ _ _ _ H1Q hRq
    have hcq:∀j (hj:j<csq.length),wq.cell? ⟨bq,oq+q*3+j,none⟩=some csq[j]:=fun j hj=>by rw[H1Q.cell (p:=⟨bq,_,none⟩) hbq];exact hcq j hj
    have HVF:Hid (U2 (ins.length+outs.length) q vs[q]=false->qw ⟨s,ins,outs,vars,eqs⟩=false):=fun h=>alu ⟨s,ins,outs,vars,eqs⟩ vs (uh HVE) q Y0 h
    have HVA:Hid (U2 (ins.length+outs.length) q vs[q]=true->∀j (h:j<vs.length),j<q+1->U2 (ins.length+outs.length) j vs[j]=true):=fun hc j h h1=>by
     by_cases e:j=q
     ·subst e;exact hc
     ·exact uh HAQ j h (by omega)
    clear H1Q
    generalize vs[q]=x at *
    obtain⟨xs,xt,xc⟩:=x
    obtain⟨vcl,rfl,hsx,htx,hcx⟩:=hRq
    simp only at hsx htx hcx
    obtain⟨bk,ck,rfl⟩:=hcx.shape
    have r0:=hcq 0 (by simp)
    have r1:=hcq 1 (by simp)
    have r2:=hcq 2 (by simp)
    simp only[Nat.mul_one,Nat.add_zero,List.getElem_cons_zero,List.getElem_cons_succ] at r0 r1 r2
    have HCX:=hide hcx
    have lx:=hcx.len'
    clear hcx hcq au7 htx
    have BV0:=hide ((Below.refl wq.heap.size wq).alloc (Nat.le_refl _) (.cells #[.string xs,.int .i64 xt,.slice bk xc.length ck] 68))
    go_wp2_with fail
    refine(Ah xs _ hsx).mono ?_
    rintro e w3 ⟨rfl,hb3⟩
    have a0g:=hide (Vy hb3)
    have B3q:Hid (Below wq.heap.size wq w3):=(uh BV0).trans (hb3.mono (by simp))
    have B3:Hid (Below w.heap.size w w3):=(uh BQ).trans ((uh B3q).mono (uh BQ).size)
    have Y8:Hid (Below (wN.heap.size+1) _ w3):=(uh af0).trans ((uh B3q).mono (by omega))
    have H23:Hid (Below w2.heap.size w2 w3):=(uh Ik).trans ((uh B3q).mono (uh Ik).size)
    have a3p:=hide ((uh HCX).stays lg (uh B3q))
    obtain⟨_,_,hvc,_,_,a0h⟩:=uh a3p
    simp only[Value.slice.injEq] at hvc
    obtain⟨rfl,_,rfl⟩:=hvc
    have a3q:=hide a0h
    clear hb3 a0h r0 r1 r2 kc0 kc1 kc2 kc4
    have m1:w3.cell? ⟨wq.heap.size,1,none⟩=some (.int .i64 xt):=by rw[ou (B:=0) (uh a0g) 1];rfl
    have m2:w3.cell? ⟨wq.heap.size,2,none⟩=some (.slice bk xc.length ck):=by rw[ou (B:=0) (uh a0g) 2];rfl
    have kd0:w3.cell? ⟨wN.heap.size,0,none⟩=some (.string s):=by rw[ou (B:=0) (uh Y8) 0];rfl
    have kd1:w3.cell? ⟨wN.heap.size,1,none⟩=some (.slice b1 ins.length c1):=by rw[ou (B:=0) (uh Y8) 1];rfl
    have kd2:w3.cell? ⟨wN.heap.size,2,none⟩=some (.slice b2 outs.length c2):=by rw[ou (B:=0) (uh Y8) 2];rfl
    have kd4:w3.cell? ⟨wN.heap.size,4,none⟩=some (.slice b4 eqs.length c4):=by rw[ou (B:=0) (uh Y8) 4];rfl
    cases hnx:nameB xs
    ·have HF:=hide (uh Jz (uh HVF (abw _ _ ⟨xs,xt,xc⟩ (by rintro⟨h,_⟩;simp only[hnx] at h;cases h))))
     go_wp2
     go_ret
     exact⟨gu (uh HF).symm,uh B3⟩
    by_cases g7:xt<1
    ·have dd:decide (xt<1)=true:=by rw[decide_eq_true_iff];omega
     have HF:=hide (uh Jz (uh HVF (abw _ _ ⟨xs,xt,xc⟩ (by rintro⟨_,h,_⟩;simp only at h;omega))))
     go_wp2
     go_ret
     exact⟨gu (uh HF).symm,uh B3⟩
    have d7:decide (xt<1)=false:=by rw[decide_eq_false_iff_not];omega
    by_cases g8:2<xt
    ·have dd:decide (2<xt)=true:=by rw[decide_eq_true_iff];omega
     have HF:=hide (uh Jz (uh HVF (abw _ _ ⟨xs,xt,xc⟩ (by rintro⟨_,h,_⟩;simp only at h;omega))))
     go_wp2
     go_ret
     exact⟨gu (uh HF).symm,uh B3⟩
    have d8:decide (2<xt)=false:=by rw[decide_eq_false_iff_not];omega
    by_cases g9:8<xc.length
    ·have dd:decide (8<(xc.length:Int))=true:=by rw[decide_eq_true_iff];omega
     have HF:=hide (uh Jz (uh HVF (abw _ _ ⟨xs,xt,xc⟩ (by rintro⟨_,_,h,_⟩;simp only at h;omega))))
     go_wp2
     go_ret
     exact⟨gu (uh HF).symm,uh B3⟩
    have d9:decide (8<(xc.length:Int))=false:=by rw[decide_eq_false_iff_not];omega
    have a0i:Hid ((q<ins.length+outs.length->xc.length=0)->xc.all Lh=true->U2 (ins.length+outs.length) q ⟨xs,xt,xc⟩=true):=fun h1 h2=>(aq8 _ _ _).2 ⟨hnx,by simp only;omega,by simp only;omega,h2,h1⟩
    have a3r:Hid (xc.all Lh=false->U2 (ins.length+outs.length) q ⟨xs,xt,xc⟩=false):=fun h=>abw _ _ _ (by rintro⟨_,_,_,h4,_⟩;simp only at h4;rw[h] at h4;cases h4)
    by_cases g10:q<ins.length+outs.length∧0<xc.length
    ·obtain⟨ga,gb⟩:=g10
     have da:decide ((q:Int)<(ins.length:Int)+(outs.length:Int))=true:=by rw[decide_eq_true_iff];omega
     have db:decide (0<(xc.length:Int))=true:=by rw[decide_eq_true_iff];omega
     have HF:=hide (uh Jz (uh HVF (abw _ _ ⟨xs,xt,xc⟩ (by rintro⟨_,_,_,_,h⟩;have:=h ga;simp only at this;omega))))
     go_wp2
     go_ret
     exact⟨gu (uh HF).symm,uh B3⟩
    have au8:Hid (q<ins.length+outs.length->xc.length=0):=fun h=>by
     by_cases e:xc.length=0
     ·exact e
     ·exact absurd ⟨h,by omega⟩ g10
    by_cases g11:q<ins.length+outs.length
    ·have da:decide ((q:Int)<(ins.length:Int)+(outs.length:Int))=true:=by rw[decide_eq_true_iff];omega
     have db:decide (0<(xc.length:Int))=false:=by rw[decide_eq_false_iff_not];omega
     go_wp2
     go_loopg [103] xc.length (fun g i wr=>∃(r:Nat),r<=xc.length∧g=xc.length-r∧i=.int .i64 r∧Below w3.heap.size w3 wr∧∀j (h:j<xc.length),j<r->Lh xc[j]=true)
     case atStart=>exact⟨0,Nat.zero_le _,by omega,rfl,Below.refl _ _,fun j _ h=>absurd h (Nat.not_lt_zero _)⟩
     case round =>
      obtain⟨r,hr,hg3,rfl,Ci,Lu⟩:=hrel
      have Jg:=hide hg3
      have Vd:=hide Lu
      have HB3:=hide Ci
      clear hg3 Lu Ci
      by_cases hlt3:r<xc.length
      ·have:=uh au8 g11
       omega
      ·have au9:=hide (uh HVA (uh a0i (uh au8) (by
        rw[List.all_eq_true]
        intro x hx
        obtain⟨j,hj,rfl⟩:=List.getElem_of_mem hx
        exact uh Vd j hj (by omega))))
       go_wp2
       go_roundg (vs.length-(q+1))
       case measure=>have:=uh HG2;omega
       case rel=>exact⟨q+1,by omega,rfl,by go_num,(uh H23).trans ((uh HB3).mono (uh H23).size),uh au9⟩
    ·have da:decide ((q:Int)<(ins.length:Int)+(outs.length:Int))=false:=by rw[decide_eq_false_iff_not];omega
     go_wp2
     go_loopg [103] xc.length (fun g i wr=>∃(r:Nat),r<=xc.length∧g=xc.length-r∧i=.int .i64 r∧Below w3.heap.size w3 wr∧∀j (h:j<xc.length),j<r->Lh xc[j]=true)
     case atStart=>exact⟨0,Nat.zero_le _,by omega,rfl,Below.refl _ _,fun j _ h=>absurd h (Nat.not_lt_zero _)⟩
     case round =>
      obtain⟨r,hr,hg3,rfl,Ci,Lu⟩:=hrel
      have Jg:=hide hg3
      have Vd:=hide Lu
      have HB3:=hide Ci
      clear hg3 Lu Ci
      by_cases hlt3:r<xc.length
      ·obtain⟨bc,oc,csc,jr,_,hbc,ac3,hcc,hRc⟩:=uh a3q r hlt3
       subst jr
       have hcc:∀j (hj:j<csc.length),wr.cell? ⟨bc,oc+r*2+j,none⟩=some csc[j]:=fun j hj=>by rw[(uh HB3).cell (p:=⟨bc,_,none⟩) hbc];exact hcc j hj
       obtain⟨rfl,hsc⟩:=hRc
       have t0:=hcc 0 (by simp)
       have t1:=hcc 1 (by simp)
       simp only[Nat.mul_one,Nat.add_zero,List.getElem_cons_zero,List.getElem_cons_succ] at t0 t1
       have HC:=hide (fun w=>Ah xc[r].name w hsc)
       clear hcc ac3 hsc
       cases hp:nameB xc[r].name
       ·have HF:=hide (uh Jz (uh HVF (uh a3r (by rw[List.all_eq_false];exact⟨xc[r],List.getElem_mem hlt3,by unfold Lh;rw[hp];decide⟩))))
        go_wp2_with fail
        refine(uh HC _).mono ?_
        rintro e w4 ⟨rfl,hb4⟩
        rw[hp]
        go_wp2
        go_ret
        exact⟨gu (uh HF).symm,(uh B3).trans (((uh HB3).trans (((Below.refl _ _).alloc (uh HB3).size _).trans (hb4.mono (Nat.le_trans (uh HB3).size (by simp))))).mono (uh B3).size)⟩
       ·have A':∀j (h:j<xc.length),j<r+1->Lh xc[j]=true:=by
         intro j h h1
         by_cases e:j=r
         ·subst e;exact hp
         ·exact uh Vd j h (by omega)
        have HA':=hide A'
        clear A'
        go_wp2_with fail
        refine(uh HC _).mono ?_
        rintro e w4 ⟨rfl,hb4⟩
        rw[hp]
        go_wp2
        go_roundg (xc.length-(r+1))
        case measure=>have:=uh Jg;omega
        case rel=>exact⟨r+1,by omega,rfl,by go_num,(uh HB3).trans (((Below.refl _ _).alloc (uh HB3).size _).trans (hb4.mono (Nat.le_trans (uh HB3).size (by simp)))),uh HA'⟩
      ·have au9:=hide (uh HVA (uh a0i (uh au8) (by
        rw[List.all_eq_true]
        intro x hx
        obtain⟨j,hj,rfl⟩:=List.getElem_of_mem hx
        exact uh Vd j hj (by omega))))
       go_wp2
       go_roundg (vs.length-(q+1))
       case measure=>have:=uh HG2;omega
       case rel=>exact⟨q+1,by omega,rfl,by go_num,(uh H23).trans ((uh HB3).mono (uh H23).size),uh au9⟩
   ·have awh:Hid (∀i (h:i<vs.length),U2 (ins.length+outs.length) i vs[i]=true):=fun i h=>uh HAQ i h (by omega)
    have HNY:Hid (eqs.all Eb=true->qw ⟨s,ins,outs,vars,eqs⟩=true):=fun h=>ava ⟨s,ins,outs,vars,eqs⟩ vs (uh HVE) (by have:=uh HVL;simp only;omega) hnm (uh awh) h
    have HNN:Hid (eqs.all Eb=false->qw ⟨s,ins,outs,vars,eqs⟩=false):=fun h=>apa ⟨s,ins,outs,vars,eqs⟩ h
    have HNQ:Hid (Below wN.heap.size wN wq):=(uh U6).trans (((uh ao9).trans ((uh Ik).mono (uh ao9).size)).mono (uh U6).size)
    have HG4:=hide ((uh G4).stays xq (uh HNQ))
    obtain⟨_,_,I8,_,_,hex⟩:=uh HG4
    simp only[Value.slice.injEq] at I8
    obtain⟨rfl,_,rfl⟩:=I8
    have HEX:=hide hex
    clear hex awh HAQ HG2
    go_wp2
    go_loopg [116] eqs.length (fun g i wr=>∃(r:Nat),r<=eqs.length∧g=eqs.length-r∧i=.int .i64 r∧Below wq.heap.size wq wr∧∀j (h:j<eqs.length),j<r->Eb eqs[j]=true)
    case atStart=>exact⟨0,Nat.zero_le _,by omega,rfl,Below.refl _ _,fun j _ h=>absurd h (Nat.not_lt_zero _)⟩
    case round =>
     obtain⟨r,hr,hg3,rfl,Ci,Lu⟩:=hrel
     have Jg:=hide hg3
     have Vd:=hide Lu
     have HB3:=hide Ci
     clear hg3 Lu Ci
     by_cases hlt3:r<eqs.length
     ·obtain⟨bc,oc,csc,jr,_,hbc,ac3,hcc,hRc⟩:=uh HEX r hlt3
      subst jr
      have hRc:=xq.stays _ _ _ _ _ (uh HB3) hRc
      have hcc:∀j (hj:j<csc.length),wr.cell? ⟨bc,oc+r*4+j,none⟩=some csc[j]:=fun j hj=>by rw[(uh HB3).cell (p:=⟨bc,_,none⟩) hbc];exact hcc j hj
      obtain⟨el,ec,ea,rfl,hsc,e1,e2,e3⟩:=hRc
      obtain⟨f1,f1c,rfl⟩:=e1.shape
      obtain⟨f2,f2c,rfl⟩:=e2.shape
      obtain⟨f3,f3c,rfl⟩:=e3.shape
      have t0:=hcc 0 (by simp)
      have t1:=hcc 1 (by simp)
      have t2:=hcc 2 (by simp)
      have t3:=hcc 3 (by simp)
      simp only[Nat.mul_one,Nat.add_zero,List.getElem_cons_zero,List.getElem_cons_succ] at t0 t1 t2 t3
      have HC:=hide (fun ob=>aq7 eqs[r] _ _ _ (wr.alloc ob) hsc (e1.stays uw ((Below.refl _ _).alloc (Nat.le_refl _) ob)) (e2.stays je ((Below.refl _ _).alloc (Nat.le_refl _) ob)) (e3.stays lq ((Below.refl _ _).alloc (Nat.le_refl _) ob)))
      clear hcc ac3 hsc e1 e2 e3
      cases hp:Eb eqs[r]
      ·have HF:=hide (uh Jz (uh HNN (by rw[List.all_eq_false];exact⟨eqs[r],List.getElem_mem hlt3,by rw[hp];decide⟩)))
       go_wp2_with fail
       refine(uh HC _).mono ?_
       rintro e w4 ⟨rfl,hb4⟩
       rw[hp]
       go_wp2
       go_ret
       exact⟨gu (uh HF).symm,(uh BQ).trans (((uh HB3).trans (((Below.refl _ _).alloc (uh HB3).size _).trans (hb4.mono (Nat.le_trans (uh HB3).size (by simp))))).mono (uh BQ).size)⟩
      ·have A':∀j (h:j<eqs.length),j<r+1->Eb eqs[j]=true:=by
        intro j h h1
        by_cases e:j=r
        ·subst e;exact hp
        ·exact uh Vd j h (by omega)
       have HA':=hide A'
       clear A'
       go_wp2_with fail
       refine(uh HC _).mono ?_
       rintro e w4 ⟨rfl,hb4⟩
       rw[hp]
       go_wp2
       go_roundg (eqs.length-(r+1))
       case measure=>have:=uh Jg;omega
       case rel=>exact⟨r+1,by omega,rfl,by go_num,(uh HB3).trans (((Below.refl _ _).alloc (uh HB3).size _).trans (hb4.mono (Nat.le_trans (uh HB3).size (by simp)))),uh HA'⟩
     ·have HOK:=hide (uh ao8 (uh HNY (by
       rw[List.all_eq_true]
       intro x hx
       obtain⟨j,hj,rfl⟩:=List.getElem_of_mem hx
       exact uh Vd j hj (by omega))))
      go_wp2
      go_roundg (ns.length-(k+1))
      case measure=>have:=uh HG;omega
      case rel=>exact⟨k+1,by omega,rfl,by go_num,(uh BQ).trans ((uh HB3).mono (uh BQ).size),uh HOK⟩
def aeu (w:Nat) (e:qg):Nat:=w+(1+2*yc e)+zq (dw e) (dw e).length
def N9 (ns:List ay) (i:Nat) (ws:List Int) (w:Nat) (e:qg):Nat :=
 if e.call.size=0 then w else if jh ns i e.call<0 then w else w+(ws.getD (jh ns i e.call).toNat 0).toNat
def Hl (w:Nat):Nat:=if 20000<w then 20001 else w
def Xu (ns:List ay) (i:Nat) (ws:List Int) (w:Nat) (e:qg):Nat:=Hl (N9 ns i ws (aeu w e) e)
def ng (ns:List ay) (i:Nat) (ws:List Int) (eqs:List qg):Nat->Nat
 | 0=>1
 | k+1=>match eqs[k]? with
  | some e=>Xu ns i ws (ng ns i ws eqs k) e
  | none=>ng ns i ws eqs k
def jl (ns:List ay):Nat->List Int
 | 0=>[]
 | k+1=>jl ns k++[match ns[k]? with|some n=>((ng ns k (jl ns k) n.eqs n.eqs.length:Nat):Int)|none=>0]
theorem axn (w:Nat):Hl w<=20001:=by unfold Hl;split<;>omega
theorem aev (ns:List ay) (i:Nat) (ws:List Int) (eqs:List qg) (k:Nat):ng ns i ws eqs k<=20001:=by
 induction k with
 | zero=>simp[ng]
 | succ k ih =>
  unfold ng
  cases eqs[k]? with
  | none=>exact ih
  | some e=>exact axn _
theorem Ig (ns:List ay) (k:Nat):(jl ns k).length=k:=by
 induction k with
 | zero=>rfl
 | succ k ih=>unfold jl;rw[List.length_append,ih];rfl
theorem abx (ns:List ay) (k:Nat):∀x,x∈jl ns k->0<=x∧x<=20001:=by
 induction k with
 | zero=>intro x hx;cases hx
 | succ k ih =>
  intro x hx
  unfold jl at hx
  rcases List.mem_append.1 hx with hx|hx
  ·exact ih x hx
  ·simp only[List.mem_singleton] at hx
   subst hx
   cases ns[k]? with
   | none=>simp only;omega
   | some n=>have:=aev ns k (jl ns k) n.eqs n.eqs.length;simp only;omega
def amn (ns:List ay):Prop:=∀n,n∈ns->∀e,e∈n.eqs->(dw e).length<=500∧∀c,c∈dw e->c.length<=3000
theorem aq9 (c:List eu) (h:Df c=true):c.length<=3000:=by
 unfold Df at h
 simp only[Bool.and_eq_true,decide_eq_true_iff] at h
 exact h.1.1
theorem Vr (e:qg) (h:Eb e=true):(dw e).length<=500∧∀c,c∈dw e->c.length<=3000:=by
 unfold Eb at h
 simp only[Bool.and_eq_true,decide_eq_true_iff] at h
 obtain⟨⟨⟨h1,h2,h3⟩,h4⟩,h5⟩:=h
 unfold dw
 by_cases g:e.call.size=0
 ·rw[if_pos g] at h5 ⊢
  simp only[Bool.and_eq_true] at h5
  refine⟨by simp,fun c hc=>?_⟩
  simp only[List.mem_singleton] at hc
  subst hc
  exact aq9 _ h5.2
 ·rw[if_neg g] at h5 ⊢
  simp only[Bool.and_eq_true] at h5
  exact⟨h3,fun c hc=>aq9 c (List.all_eq_true.1 h5.2 c hc)⟩
theorem ak4 (ns:List ay) (h:Ar ns=true):amn ns:=by
 unfold Ar at h
 simp only[Bool.and_eq_true] at h
 intro n hn e he
 have:=(yg n).1 (List.all_eq_true.1 h.2 n hn)
 exact Vr e (List.all_eq_true.1 this.2.2.2.2.2 e he)
end Go.Proofs.YtflcnhfakcgkeaaGreat
