import Derived.Test.YtflcnhfakcgkeaaGreatSpecShape
import Derived.Test.YtflcnhfakcgkeaaGreatCE2
import Derived.Test.YtflcnhfakcgkeaaGreatCY2
import Derived.Test.YtflcnhfakcgkeaaGreatCS4
namespace Go.Proofs.YtflcnhfakcgkeaaGreat
open Go.RowKit
set_option linter.unusedSimpArgs false
set_option linter.unusedVariables false
theorem aex {n:Nat} (h:n<=500):n*3000<=1500000:=by omega
set_option maxRecDepth 100000 in
set_option maxHeartbeats 8000000 in
theorem aia (ns:List ay) (v:Value) (w:World) (h1:bf 5 112 o7 0 w v ns) (hsm:amn ns) (hnn:ns.length<=200) :
  Calls Tryz.prog 71 #[.agg #[v]] w fun e w'=>∃v,e=.returned v∧bf 1 8 Oo 0 w' v (jl ns ns.length)∧Below w.heap.size w w':=by
 have n1:=h1.len'
 obtain⟨b0,c0,rfl⟩:=h1.shape
 have H1:=hide h1
 obtain⟨_,_,hv0,_,_,hx⟩:=h1
 simp only[Value.slice.injEq] at hv0
 obtain⟨rfl,_,rfl⟩:=hv0
 have HX:=hide hx
 have Uw:=hide hsm
 clear hx hsm
 have P0:=hide ((Below.refl w.heap.size w).alloc (Nat.le_refl _) (.cells #[.slice b0 ns.length c0] 30))
 have O0:Hid (A8 ((w.alloc (.cells #[.slice b0 ns.length c0] 30)).alloc (.cells #[] 3)) (w.heap.size+1) (w.heap.size+1) 0 []):=by
  have:=A8.start (w.alloc (.cells #[.slice b0 ns.length c0] 30)) (w.heap.size+1) (by simp)
  show A8 _ _ _ _ _
  simpa using this
 go_enter Tryz.func71,Tryz.ntmps71
 go_wp2
 go_loopg [3,15] ns.length (fun gh wv i wr=>∃(k g cap:Nat),k<=ns.length∧gh=ns.length-k∧i=.int .i64 k∧wv=.slice (some ⟨g,0,none⟩) k cap∧A8 wr (w.heap.size+1) g cap (jl ns k)∧Below (w.heap.size+1) (w.alloc (.cells #[.slice b0 ns.length c0] 30)) wr)
 case atStart=>exact⟨0,w.heap.size+1,0,Nat.zero_le _,by omega,rfl,rfl,uh O0,(Below.refl _ _).alloc (by simp) _⟩
 case round =>
  obtain⟨k,g,cap,hk,hg,rfl,rfl,hown,Xt⟩:=hrel
  rename World=>wN
  have HG:=hide hg
  have HOW:=hide hown
  have Cj:=hide Xt
  have BN:Hid (Below w.heap.size w wN):=(uh P0).trans (Xt.mono (Nat.le_succ _))
  have hgN:=hown.lt
  have hgb:=hown.base
  have hNs:w.heap.size+1<=wN.heap.size:=by have:=Xt.size;simpa using this
  have hwl:=Ig ns k
  have Jk:=hide hwl
  clear hg hown Xt hwl
  by_cases hlt:k<ns.length
  case neg =>
   have e:k=ns.length:=by omega
   subst e
   have HD:=hide ((uh HOW).at (fun x hx=>by have:=abx ns ns.length x hx;exact⟨rfl,by omega,by omega⟩) (by rw[uh Jk];omega))
   go_wp2
   go_ret
   refine⟨_,rfl,?_,uh BN⟩
   have:=uh HD
   rw[uh Jk] at this
   exact this
  obtain⟨b,o,cs,jr,_,hb,hcs,hc,hR⟩:=uh HX k hlt
  subst jr
  have hR:=jk.stays _ _ _ _ _ (uh BN) hR
  have hc:∀j (hj:j<cs.length),wN.cell? ⟨b,o+k*5+j,none⟩=some cs[j]:=fun j hj=>by rw[(uh BN).cell (p:=⟨b,_,none⟩) hb];exact hc j hj
  have afz:=uh Uw ns[k] (List.getElem_mem hlt)
  have awj:Hid (jl ns (k+1)=jl ns k++[((ng ns k (jl ns k) ns[k].eqs ns[k].eqs.length:Nat):Int)]):=by
   show jl ns (k+1)=_
   rw[jl,List.getElem?_eq_getElem hlt]
  generalize ns[k]=nd at *
  obtain⟨s,ins,outs,vars,eqs⟩:=nd
  obtain⟨ni,no,nv,ne,rfl,hsn,q1,q2,q3,q4⟩:=hR
  simp only at hsn q1 q2 q3 q4 afz
  have HSK:=hide afz
  have l4:=q4.len'
  obtain⟨b1,c1,rfl⟩:=q1.shape
  obtain⟨b2,c2,rfl⟩:=q2.shape
  obtain⟨b3,c3,rfl⟩:=q3.shape
  obtain⟨b4,c4,rfl⟩:=q4.shape
  have G4:=hide q4
  have y0:=hc 0 (by simp)
  have y1:=hc 1 (by simp)
  have y2:=hc 2 (by simp)
  have y3:=hc 3 (by simp)
  have y4:=hc 4 (by simp)
  simp only[Nat.mul_one,Nat.add_zero,List.getElem_cons_zero,List.getElem_cons_succ] at y0 y1 y2 y3 y4
  clear q1 q2 q3 q4 hc hcs afz
  obtain⟨_,_,I8,_,_,hex⟩:=uh G4
  simp only[Value.slice.injEq] at I8
  obtain⟨rfl,_,rfl⟩:=I8
  have HEX:=hide hex
  clear hex
  go_wp2
  go_loopg [6,23] eqs.length (fun gh n i wr=>∃(q:Nat),q<=eqs.length∧gh=eqs.length-q∧i=.int .i64 q∧n=.int .i64 (ng ns k (jl ns k) eqs q)∧Below (wN.heap.size+1) (wN.alloc (.cells #[.string s,.slice b1 ins.length c1,.slice b2 outs.length c2,.slice b3 vars.length c3,.slice b4 eqs.length c4] 42)) wr)
  case atStart=>exact⟨0,Nat.zero_le _,by omega,rfl,rfl,Below.refl _ _⟩
  case round =>
   obtain⟨q,hq,hg2,rfl,rfl,Ua⟩:=hrel
   rename World=>wq
   have HG2:=hide hg2
   have Ik:=hide Ua
   have BNQ:Hid (Below wN.heap.size wN wq):=((Below.refl _ _).alloc (Nat.le_refl _) _).trans (Ua.mono (Nat.le_succ _))
   have BQ:Hid (Below w.heap.size w wq):=(uh BN).trans ((uh BNQ).mono (uh BN).size)
   have hNq:wN.heap.size<wq.heap.size:=by have:=Ua.size;simp at this;omega
   have a6r:=aev ns k (jl ns k) eqs q
   clear hg2 Ua y0 y1 y2 y3 y4
   by_cases Y0:q<eqs.length
   case neg =>
    have e:q=eqs.length:=by omega
    have HOQ:=hide ((uh HOW).below (uh BNQ))
    have xw:Hid (jl ns (k+1)=jl ns k++[((ng ns k (jl ns k) eqs q:Nat):Int)]):=by
     show jl ns (k+1)=_
     rw[uh awj,e]
    clear awj
    generalize ng ns k (jl ns k) eqs q=wn at *
    have ain:Hid (A8 (wq.alloc (.cells #[.int .i64 (wn:Int)] 3)) (w.heap.size+1) g cap (jl ns k)):=(uh HOQ).below ((Below.refl _ _).alloc (Nat.le_refl _) _)
    have HQ2:Hid (Below (w.heap.size+1) _ (wq.alloc (.cells #[.int .i64 (wn:Int)] 3))):=(uh Cj).trans (((uh BNQ).mono hNs).trans ((Below.refl _ _).alloc (by omega) _))
    go_wp2_with (at_builtin;go_must (refine Yl _ rfl _ _ rfl (w.heap.size+1) g cap (jl ns k) (by rw[uh Jk];rfl) (uh ain) wq.heap.size (wn:Int) rfl (by rw[World.cell?_alloc_at _ _ _ _ rfl];rfl) (by rw[uh Jk];omega) (by simp;omega) ?_))
    intro g' cap' w7 apg a0o
    have B7:=Jl (uh HQ2) a0o (by simp;omega) hgb
    rw[←uh xw] at apg
    have HO7:=hide apg
    have G8:=hide B7
    rw[uh Jk]
    clear apg a0o B7
    go_wp2
    go_roundg (ns.length-(k+1))
    case measure=>have:=uh HG;omega
    case rel=>exact⟨k+1,g',cap',by omega,rfl,by go_num,rfl,uh HO7,uh G8⟩
   obtain⟨bq,oq,csq,jr,_,hbq,au7,hcq,hRq⟩:=uh HEX q Y0
   subst jr
   have hRq:=xq.stays _ _ _ _ _ (uh BNQ) hRq
   have hcq:∀j (hj:j<csq.length),wq.cell? ⟨bq,oq+q*4+j,none⟩=some csq[j]:=fun j hj=>by rw[(uh BNQ).cell (p:=⟨bq,_,none⟩) hbq];exact hcq j hj
   have hsq:=uh HSK eqs[q] (List.getElem_mem Y0)
   have aby:Hid (ng ns k (jl ns k) eqs (q+1)=Xu ns k (jl ns k) (ng ns k (jl ns k) eqs q) eqs[q]):=by
    show ng ns k (jl ns k) eqs (q+1)=_
    rw[ng,List.getElem?_eq_getElem Y0]
   generalize eqs[q]=ee at *
   obtain⟨xl,xc,xs,xa⟩:=ee
   obtain⟨el,ec,ea,rfl,hsx,e1,e2,e3⟩:=hRq
   simp only at hsx e1 e2 e3
   obtain⟨f1,f1c,rfl⟩:=e1.shape
   obtain⟨f2,f2c,rfl⟩:=e2.shape
   obtain⟨f3,f3c,rfl⟩:=e3.shape
   have t0:=hcq 0 (by simp)
   have t1:=hcq 1 (by simp)
   have t2:=hcq 2 (by simp)
   have t3:=hcq 3 (by simp)
   simp only[Nat.mul_one,Nat.add_zero,List.getElem_cons_zero,List.getElem_cons_succ] at t0 t1 t2 t3
   have E2:=hide e2
   have E3:=hide e3
   have HSQ:=hide hsq
   have hib:yc ⟨xl,xc,xs,xa⟩<=1500000:=by
    have a1:=Ez (decide (xs.size=0)) (dw ⟨xl,xc,xs,xa⟩) (dw ⟨xl,xc,xs,xa⟩).length
    have a2:=Ed (dw ⟨xl,xc,xs,xa⟩) 3000 hsq.2 (dw ⟨xl,xc,xs,xa⟩).length
    have a3:=aex hsq.1
    exact Nat.le_trans (Nat.le_trans a1 a2) a3
   have BE0:=hide ((Below.refl wq.heap.size wq).alloc (Nat.le_refl _) (.cells #[.slice f1 xl.length f1c,.slice f2 xc.length f2c,.string xs,.slice f3 xa.length f3c] 48))
   clear hcq au7 e1 e2 e3 hsq
   generalize ng ns k (jl ns k) eqs q=wv0 at *
   go_wp2_with fail
   refine(ad4 ⟨xl,xc,xs,xa⟩ _ _ _ _ ((uh E2).stays je (uh BE0)) ((uh E3).stays lq (uh BE0)) (uh HSQ).2 (uh HSQ).1).mono ?_
   rintro e w3 ⟨rfl,hb3⟩
   have af4:=hide (Vy hb3)
   have B3q:Hid (Below wq.heap.size wq w3):=(uh BE0).trans (hb3.mono (by simp))
   have m0:w3.cell? ⟨wq.heap.size,0,none⟩=some (.slice f1 xl.length f1c):=by rw[ou (B:=0) (uh af4) 0];rfl
   have m1:w3.cell? ⟨wq.heap.size,1,none⟩=some (.slice f2 xc.length f2c):=by rw[ou (B:=0) (uh af4) 1];rfl
   have m2:w3.cell? ⟨wq.heap.size,2,none⟩=some (.string xs):=by rw[ou (B:=0) (uh af4) 2];rfl
   have m3:w3.cell? ⟨wq.heap.size,3,none⟩=some (.slice f3 xa.length f3c):=by rw[ou (B:=0) (uh af4) 3];rfl
   have hq3:wq.heap.size<w3.heap.size:=by have:=(uh af4).size;simp at this;omega
   have Na:Hid (aeu wv0 ⟨xl,xc,xs,xa⟩=wv0+(1+2*yc ⟨xl,xc,xs,xa⟩)+zq (dw ⟨xl,xc,xs,xa⟩) (dw ⟨xl,xc,xs,xa⟩).length):=rfl
   generalize yc ⟨xl,xc,xs,xa⟩=inn at *
   clear hb3 t0 t1 t2 t3
   go_wp2_with fail
   refine(Zk ⟨xl,xc,xs,xa⟩ _ _ _ _ ((uh E2).stays je (uh B3q)) ((uh E3).stays lq (uh B3q))).mono ?_
   rintro e w4 ⟨vc,rfl,Xg,hb4⟩
   have B4q:Hid (Below wq.heap.size wq w4):=(uh B3q).trans (hb4.mono (uh B3q).size)
   have a3z:Hid (Below (wq.heap.size+1) _ w4):=(uh af4).trans (hb4.mono (by omega))
   have r2:w4.cell? ⟨wq.heap.size,2,none⟩=some (.string xs):=by rw[ou (B:=0) (uh a3z) 2];rfl
   have B4:Hid (Below w.heap.size w w4):=(uh BQ).trans ((uh B4q).mono (uh BQ).size)
   have hq4:wq.heap.size<w4.heap.size:=Nat.lt_of_lt_of_le hq3 hb4.size
   have BN4:Hid (Below wN.heap.size wN w4):=(uh BNQ).trans ((uh B4q).mono (uh BNQ).size)
   have a4a:Hid (Below (w.heap.size+1) _ w4):=(uh Cj).trans ((uh BN4).mono hNs)
   have p4:w4.cell? ⟨w.heap.size,0,none⟩=some (.slice (some ⟨b,o,none⟩) ns.length c0):=by rw[ou (B:=0) (uh a4a) 0];rfl
   have HCC:=hide (uh HSQ)
   obtain⟨bv,cv,rfl⟩:=Xg.shape
   obtain⟨_,_,hvv,_,hvn,Gw⟩:=Xg
   simp only[Value.slice.injEq] at hvv
   obtain⟨rfl,_,rfl⟩:=hvv
   have Jf:=hide Gw
   have hcl:=(uh HSQ).2
   have hcn:=(uh HSQ).1
   have Gv:=hide hcl
   have Ov:Hid (dw ⟨xl,xc,xs,xa⟩=dw ⟨xl,xc,xs,xa⟩):=rfl
   generalize Kt:dw ⟨xl,xc,xs,xa⟩=iy at *
   have a6s:=hide Kt
   clear Gw hb4 hcl Kt Ov HSQ HCC m0 m1 m2 m3
   unfold Len at hvn
   go_wp2
   go_loopg [6,36] iy.length (fun gh n i wr=>∃(r:Nat),r<=iy.length∧gh=iy.length-r∧i=.int .i64 r∧n=.int .i64 ((wv0+(1+2*inn)+zq iy r:Nat):Int)∧wr=w4)
   case atStart=>exact⟨0,Nat.zero_le _,by omega,rfl,int_eq (by simp[zq]),rfl⟩
   case round =>
    obtain⟨r,hr,hg3,rfl,rfl,hwr⟩:=hrel
    subst hwr
    have Jg:=hide hg3
    have hlb:=Ed iy 3000 (uh Gv) r
    have V8:zq iy r<=1500000:=Nat.le_trans hlb (aex (by omega))
    clear hg3 hlb
    by_cases hlt3:r<iy.length
    ·obtain⟨bc,oc,csc,jr,_,hbc,ac3,hcc,hRc⟩:=uh Jf r hlt3
     subst jr
     obtain⟨va,rfl,hE⟩:=hRc
     obtain⟨be,ce,rfl⟩:=hE.shape
     have u0:=hcc 0 (by simp)
     simp only[Nat.mul_one,Nat.add_zero,List.getElem_cons_zero,List.getElem_cons_succ] at u0
     have hel:=uh Gv iy[r] (List.getElem_mem hlt3)
     have HS:Hid (zq iy (r+1)=zq iy r+iy[r].length):=by
      show zq iy (r+1)=_
      rw[zq,List.getElem?_eq_getElem hlt3]
     clear hcc ac3 hE
     generalize iy[r]=cd at *
     generalize zq iy r=lr at *
     go_wp2
     go_roundg (iy.length-(r+1))
     case measure=>have:=uh Jg;omega
     case rel=>exact⟨r+1,by omega,rfl,by go_num,int_eq (by have:=uh HS;omega),rfl⟩
    ·have e:r=iy.length:=by omega
     subst e
     have HWA:Hid (aeu wv0 ⟨xl,xc,xs,xa⟩=wv0+(1+2*inn)+zq iy iy.length):=uh Na
     have hwa:wv0+(1+2*inn)+zq iy iy.length<=5000000:=by omega
     generalize a0p:wv0+(1+2*inn)+zq iy iy.length=wa at *
     have a6t:=hide a0p
     clear a0p
     by_cases gs:xs.size=0
     ·have d4:=Aa xs gs
      have Ij:=xg xs gs
      have Jy:Hid (N9 ns k (jl ns k) wa ⟨xl,xc,xs,xa⟩=wa):=by
       show N9 ns k (jl ns k) wa ⟨xl,xc,xs,xa⟩=wa
       unfold N9
       rw[if_pos gs]
      clear gs
      by_cases hcap:20000<wa
      ·have dc:decide (20000<((wa:Nat):Int))=true:=by rw[decide_eq_true_iff];omega
       have HV:Hid (ng ns k (jl ns k) eqs (q+1)=20001):=by
        show ng ns k (jl ns k) eqs (q+1)=20001
        rw[uh aby,Xu,uh HWA,uh Jy,Hl,if_pos hcap]
       go_wp2
       go_roundg (eqs.length-(q+1))
       case measure=>have:=uh HG2;omega
       case rel=>exact⟨q+1,by omega,rfl,by go_num,int_eq (by have:=uh HV;omega),(uh Ik).trans ((uh B4q).mono (by omega))⟩
      ·have dc:decide (20000<((wa:Nat):Int))=false:=by rw[decide_eq_false_iff_not];omega
       have HV:Hid (ng ns k (jl ns k) eqs (q+1)=wa):=by
        show ng ns k (jl ns k) eqs (q+1)=wa
        rw[uh aby,Xu,uh HWA,uh Jy,Hl,if_neg hcap]
       go_wp2
       go_roundg (eqs.length-(q+1))
       case measure=>have:=uh HG2;omega
       case rel=>exact⟨q+1,by omega,rfl,by go_num,int_eq (by have:=uh HV;omega),(uh Ik).trans ((uh B4q).mono (by omega))⟩
     ·have d4:=Ae xs gs
      have Ij:=vk xs gs
      have hfb:=J7 ns k xs
      have HFI:=hide (fun w' (h:Below w.heap.size w w')=>aae ns _ k xs w' ((uh H1).stays jk h) hk)
      by_cases gf:jh ns k xs<0
      ·have Jy:Hid (N9 ns k (jl ns k) wa ⟨xl,xc,xs,xa⟩=wa):=by
        show N9 ns k (jl ns k) wa ⟨xl,xc,xs,xa⟩=wa
        unfold N9
        rw[if_neg gs,if_pos gf]
       have dg:decide (0<=jh ns k xs)=false:=by rw[decide_eq_false_iff_not];omega
       clear gs
       generalize jh ns k xs=fi at *
       go_wp2_with fail
       refine(uh HFI _ (uh B4)).mono ?_
       rintro e w5 ⟨rfl,hb5⟩
       have B5q:Hid (Below wq.heap.size wq w5):=(uh B4q).trans (hb5.mono (uh B4q).size)
       clear hb5
       by_cases hcap:20000<wa
       ·have dc:decide (20000<((wa:Nat):Int))=true:=by rw[decide_eq_true_iff];omega
        have HV:Hid (ng ns k (jl ns k) eqs (q+1)=20001):=by
         show ng ns k (jl ns k) eqs (q+1)=20001
         rw[uh aby,Xu,uh HWA,uh Jy,Hl,if_pos hcap]
        go_wp2
        go_roundg (eqs.length-(q+1))
        case measure=>have:=uh HG2;omega
        case rel=>exact⟨q+1,by omega,rfl,by go_num,int_eq (by have:=uh HV;omega),(uh Ik).trans ((uh B5q).mono (by omega))⟩
       ·have dc:decide (20000<((wa:Nat):Int))=false:=by rw[decide_eq_false_iff_not];omega
        have HV:Hid (ng ns k (jl ns k) eqs (q+1)=wa):=by
         show ng ns k (jl ns k) eqs (q+1)=wa
         rw[uh aby,Xu,uh HWA,uh Jy,Hl,if_neg hcap]
        go_wp2
        go_roundg (eqs.length-(q+1))
        case measure=>have:=uh HG2;omega
        case rel=>exact⟨q+1,by omega,rfl,by go_num,int_eq (by have:=uh HV;omega),(uh Ik).trans ((uh B5q).mono (by omega))⟩
      ·have hfl:(jh ns k xs).toNat<(jl ns k).length:=by rw[uh Jk];omega
       have HGD:Hid ((jl ns k).getD (jh ns k xs).toNat 0=(jl ns k)[(jh ns k xs).toNat]):=by
        show (jl ns k).getD _ 0=_
        simp[List.getD,hfl]
       have hvb:=abx ns k (jl ns k)[(jh ns k xs).toNat] (List.getElem_mem hfl)
       have arl:Hid (N9 ns k (jl ns k) wa ⟨xl,xc,xs,xa⟩=wa+((jl ns k)[(jh ns k xs).toNat]).toNat):=by
        show N9 ns k (jl ns k) wa ⟨xl,xc,xs,xa⟩=_
        unfold N9
        rw[if_neg gs,if_neg gf,uh HGD]
       have awk:=hide ((uh HOW).cell _ hfl)
       have dg:decide (0<=jh ns k xs)=true:=by rw[decide_eq_true_iff];omega
       clear gs HGD
       generalize (jl ns k)[(jh ns k xs).toNat]=wf at *
       generalize jh ns k xs=fi at *
       obtain⟨fn,rfl⟩:=Int.eq_ofNat_of_zero_le (show 0<=fi by omega)
       obtain⟨wfn,rfl⟩:=Int.eq_ofNat_of_zero_le hvb.1
       have Jy:Hid (N9 ns k (jl ns k) wa ⟨xl,xc,xs,xa⟩=wa+wfn):=by
        show N9 ns k (jl ns k) wa ⟨xl,xc,xs,xa⟩=wa+wfn
        rw[uh arl,Int.toNat_natCast]
       have hwfn:wfn<=20001:=by omega
       have hfk:fn<k:=by omega
       have a6u:(fn:Int)<(k:Int):=by omega
       rw[Int.toNat_natCast] at awk
       clear arl hvb hfl hfb gf
       go_wp2_with fail
       refine(uh HFI _ (uh B4)).mono ?_
       rintro e w5 ⟨rfl,hb5⟩
       have B5q:Hid (Below wq.heap.size wq w5):=(uh B4q).trans (hb5.mono (uh B4q).size)
       have B5:Hid (Below w.heap.size w w5):=(uh B4).trans (hb5.mono (uh B4).size)
       have s2:w5.cell? ⟨wq.heap.size,2,none⟩=some (.string xs):=by rw[hb5.cell (p:=⟨wq.heap.size,2,none⟩) hq4];exact r2
       have p5:w5.cell? ⟨w.heap.size,0,none⟩=some (.slice (some ⟨b,o,none⟩) ns.length c0):=by rw[hb5.cell (p:=⟨w.heap.size,0,none⟩) (Nat.lt_of_lt_of_le (show w.heap.size<wN.heap.size by omega) (Nat.le_of_lt (Nat.lt_trans hNq hq4)))];exact p4
       clear hb5 r2 p4
       go_wp2_with fail
       refine(uh HFI _ (uh B5)).mono ?_
       rintro e w6 ⟨rfl,hb6⟩
       have B6q:Hid (Below wq.heap.size wq w6):=(uh B5q).trans (hb6.mono (uh B5q).size)
       have BN6:Hid (Below wN.heap.size wN w6):=(uh BNQ).trans ((uh B6q).mono (uh BNQ).size)
       have z6:w6.cell? ⟨g,fn,none⟩=some (.int .i64 (wfn:Int)):=by rw[(uh BN6).cell (p:=⟨g,fn,none⟩) hgN];exact uh awk
       clear hb6 s2 p5
       by_cases hcap:20000<(wa+wfn)
       ·have dc:decide (20000<(((wa+wfn):Nat):Int))=true:=by rw[decide_eq_true_iff];omega
        have HV:Hid (ng ns k (jl ns k) eqs (q+1)=20001):=by
         show ng ns k (jl ns k) eqs (q+1)=20001
         rw[uh aby,Xu,uh HWA,uh Jy,Hl,if_pos hcap]
        go_wp2
        go_roundg (eqs.length-(q+1))
        case measure=>have:=uh HG2;omega
        case rel=>exact⟨q+1,by omega,rfl,by go_num,int_eq (by have:=uh HV;omega),(uh Ik).trans ((uh B6q).mono (by omega))⟩
       ·have dc:decide (20000<(((wa+wfn):Nat):Int))=false:=by rw[decide_eq_false_iff_not];omega
        have HV:Hid (ng ns k (jl ns k) eqs (q+1)=(wa+wfn)):=by
         show ng ns k (jl ns k) eqs (q+1)=(wa+wfn)
         rw[uh aby,Xu,uh HWA,uh Jy,Hl,if_neg hcap]
        go_wp2
        go_roundg (eqs.length-(q+1))
        case measure=>have:=uh HG2;omega
        case rel=>exact⟨q+1,by omega,rfl,by go_num,int_eq (by have:=uh HV;omega),(uh Ik).trans ((uh B6q).mono (by omega))⟩
def Dz (ns:List ay) (i:Nat) (x:ay) (k:Nat):Int:=match x.eqs[k]? with
 | some e=>if (firstTo (Oz (aj x) x.ins.length (wu x.eqs k) e.lhs) e.lhs.length).isSome then 4 else Aw ns i (aj x) e
 | none=>0
def xu (ns:List ay) (i:Nat) (x:ay):Int × Int :=
 if 0<=jh ns i x.name then (2,0) else
 match firstTo (I4 (aj x)) (aj x).length with
 | some k=>(2,(k:Int)+1)
 | none=>match firstTo (Dy (aj x)) (aj x).length with
  | some k=>(3,(k:Int))
  | none=>match firstTo (fun k=>Dz ns i x k != 0) x.eqs.length with
   | some k=>(Dz ns i x k,(k:Int))
   | none =>
    if (wu x.eqs x.eqs.length).length≠x.outs.length+x.vars.length then (4,(x.eqs.length:Int)) else
    if Om x then (8,0) else
    if 20000<(jl ns ns.length).getD i 0∨500<(aj x).length+wo x.eqs x.eqs.length∨500<x.eqs.length+wo x.eqs x.eqs.length then (9,0) else (0,0)
theorem awq {ns:List ay} {i:Nat} {x:ay} (h:0<=jh ns i x.name):xu ns i x=(2,0):=by unfold xu;rw[if_pos h]
theorem ax6 {ns:List ay} {i:Nat} {x:ay} (h:¬0<=jh ns i x.name) {k:Nat} (h2:firstTo (I4 (aj x)) (aj x).length=some k):xu ns i x=(2,(k:Int)+1):=by unfold xu;rw[if_neg h,h2]
theorem awr {ns:List ay} {i:Nat} {x:ay} (h:¬0<=jh ns i x.name) (h2:firstTo (I4 (aj x)) (aj x).length=none) {k:Nat} (h3:firstTo (Dy (aj x)) (aj x).length=some k):xu ns i x=(3,(k:Int)):=by unfold xu;rw[if_neg h,h2,h3]
theorem avm {ns:List ay} {i:Nat} {x:ay} (h:¬0<=jh ns i x.name) (h2:firstTo (I4 (aj x)) (aj x).length=none) (h3:firstTo (Dy (aj x)) (aj x).length=none) {k:Nat} (h4:firstTo (fun k=>Dz ns i x k != 0) x.eqs.length=some k):xu ns i x=(Dz ns i x k,(k:Int)):=by unfold xu;rw[if_neg h,h2,h3,h4]
theorem al4 {ns:List ay} {i:Nat} {x:ay} (h:¬0<=jh ns i x.name) (h2:firstTo (I4 (aj x)) (aj x).length=none) (h3:firstTo (Dy (aj x)) (aj x).length=none) (h4:firstTo (fun k=>Dz ns i x k != 0) x.eqs.length=none) :
  xu ns i x=if (wu x.eqs x.eqs.length).length≠x.outs.length+x.vars.length then (4,(x.eqs.length:Int)) else if Om x then (8,0) else if 20000<(jl ns ns.length).getD i 0∨500<(aj x).length+wo x.eqs x.eqs.length∨500<x.eqs.length+wo x.eqs x.eqs.length then (9,0) else (0,0):=by unfold xu;rw[if_neg h,h2,h3,h4]
theorem avq (ns:List ay) (i:Nat) (x:ay) (k:Nat) (hk:k<x.eqs.length):Dz ns i x k=if (firstTo (Oz (aj x) x.ins.length (wu x.eqs k) x.eqs[k].lhs) x.eqs[k].lhs.length).isSome then 4 else Aw ns i (aj x) x.eqs[k]:=by unfold Dz;rw[List.getElem?_eq_getElem hk]
theorem agh (eqs:List qg) (h:∀e,e∈eqs->yc e<=1500000) (k:Nat):wo eqs k<=k*1500000:=by
 have h':∀M,(∀e,e∈eqs->yc e<=M)->wo eqs k<=k*M:=fun M hM=>by
  induction k with
  | zero=>simp[wo]
  | succ k ih =>
   unfold wo
   rw[Nat.succ_mul]
   cases hc:eqs[k]? with
   | none=>simp only;omega
   | some e =>
    have:=hM e (List.mem_of_getElem? hc)
    simp only
    omega
 exact h' 1500000 h
theorem ad3 (ns:List ay) (h:Ar ns=true):ns.length<=200:=by
 unfold Ar at h
 simp only[Bool.and_eq_true,decide_eq_true_iff] at h
 exact h.1.2
theorem Vz {s:ByteArray} (h:nameB s=true):s.size<=40:=by
 unfold nameB yt Ad at h
 simp only[Bool.or_eq_true,Bool.and_eq_true,decide_eq_true_iff] at h
 rcases h with h|h
 ·exact h.1.1.1.2
 ·omega
theorem Nj {x:ay} (h:qw x=true):∀v,v∈aj x->Nh v=true:=by
 have hn:=(yg x).1 h
 intro v hv
 unfold aj at hv
 rcases List.mem_append.1 hv with hv|hv
 ·rcases List.mem_append.1 hv with hv|hv
  ·exact((Y3 v).1 (List.all_eq_true.1 hn.2.2.1 v hv)).2
  ·exact((Y3 v).1 (List.all_eq_true.1 hn.2.2.2.1 v hv)).2
 ·exact List.all_eq_true.1 hn.2.2.2.2.1 v hv
theorem ak0 (vs:List gy) (nm:ByteArray):jg vs nm∈vs∨jg vs nm=⟨⟨#[]⟩,0,[]⟩:=by
 unfold jg
 split
 ·exact Or.inl (List.getElem_mem _)
 ·exact Or.inr rfl
theorem X5 {x:ay} (h:qw x=true) (nm:ByteArray):(jv (aj x) nm).length<=8:=by
 unfold jv
 rcases ak0 (aj x) nm with hm|hm
 ·exact((S9 _).1 (Nj h _ hm)).2.2.1
 ·rw[hm];simp
theorem agn {x:ay} (h:qw x=true) (nm:ByteArray):∀c,c∈jv (aj x) nm->nameB c.name=true:=by
 unfold jv
 intro c hc
 rcases ak0 (aj x) nm with hm|hm
 ·exact List.all_eq_true.1 ((S9 _).1 (Nj h _ hm)).2.2.2 c hc
 ·rw[hm] at hc;simp at hc
theorem al0 {x:ay} (h:qw x=true) (lhs:List ByteArray) (k:Nat):∀nm,nm∈Gs (aj x) lhs k->nameB nm=true:=by
 induction k with
 | zero=>intro nm hm;simp[Gs] at hm
 | succ k ih =>
  intro nm hm
  unfold Gs at hm
  rcases List.mem_append.1 hm with hm|hm
  ·exact ih nm hm
  ·cases hl:lhs[k]? with
   | none=>rw[hl] at hm;simp at hm
   | some y =>
    rw[hl] at hm
    simp only[List.mem_map] at hm
    obtain⟨c,hc,rfl⟩:=hm
    exact agn h y c hc
theorem al1 {c:List eu} (h:Df c=true) (k:Nat):∀nm,nm∈Dw c k->nameB nm=true:=by
 induction k with
 | zero=>intro nm hm;simp[Dw] at hm
 | succ k ih =>
  intro nm hm
  unfold Dw at hm
  rcases List.mem_append.1 hm with hm|hm
  ·exact ih nm hm
  ·unfold Hz at hm
   cases hl:c[k]? with
   | none=>rw[hl] at hm;simp at hm
   | some t =>
    rw[hl] at hm
    simp only at hm
    by_cases hz:t.name.size=0
    ·rw[if_pos hz] at hm;simp at hm
    ·rw[if_neg hz] at hm
     split at hm
     ·simp at hm
     ·simp only[List.mem_singleton] at hm
      subst hm
      have ht:=((zo t).1 ((Ey c h).1 t (List.mem_of_getElem? hl))).2.2
      unfold Lc at ht
      split at ht
      ·exact ht
      ·simp only[decide_eq_true_iff] at ht;exact absurd ht hz
theorem ak1 {codes:List (List eu)} (h:∀c,c∈codes->Df c=true) (k:Nat):∀nm,nm∈wz codes k->nameB nm=true:=by
 induction k with
 | zero=>intro nm hm;simp[wz] at hm
 | succ k ih =>
  intro nm hm
  unfold wz at hm
  rcases List.mem_append.1 hm with hm|hm
  ·exact ih nm hm
  ·cases hl:codes[k]? with
   | none=>rw[hl] at hm;simp at hm
   | some c =>
    rw[hl] at hm
    exact al1 (h c (List.mem_of_getElem? hl)) _ nm hm
theorem ab2 {x:ay} (h:qw x=true) (e:qg) (he:e∈x.eqs):∀nm,nm∈readsOf (aj x) e->nameB nm=true:=by
 intro nm hm
 unfold readsOf at hm
 rcases List.mem_append.1 hm with hm|hm
 ·exact al0 h _ _ nm hm
 ·exact ak1 (Pv e (List.all_eq_true.1 ((yg x).1 h).2.2.2.2.2 e he)) _ nm hm
theorem am3 {x:ay} (h:qw x=true) (k:Nat):∀nm,nm∈wu x.eqs k->nameB nm=true:=by
 induction k with
 | zero=>intro nm hm;simp[wu] at hm
 | succ k ih =>
  intro nm hm
  unfold wu at hm
  rcases List.mem_append.1 hm with hm|hm
  ·exact ih nm hm
  ·cases hl:x.eqs[k]? with
   | none=>rw[hl] at hm;simp at hm
   | some e =>
    rw[hl] at hm
    have:=List.all_eq_true.1 ((yg x).1 h).2.2.2.2.2 e (List.mem_of_getElem? hl)
    unfold Eb at this
    simp only[Bool.and_eq_true] at this
    exact List.all_eq_true.1 this.1.2 nm hm
theorem ar6 (eqs:List qg) (h:∀e,e∈eqs->e.lhs.length<=500) (k:Nat):(wu eqs k).length<=k*500:=by
 have h':∀M,(∀e,e∈eqs->e.lhs.length<=M)->(wu eqs k).length<=k*M:=fun M hM=>by
  induction k with
  | zero=>simp[wu]
  | succ k ih =>
   unfold wu
   rw[List.length_append,Nat.succ_mul]
   cases hc:eqs[k]? with
   | none=>simp only[List.length_nil];omega
   | some e =>
    have:=hM e (List.mem_of_getElem? hc)
    simp only
    omega
 exact h' 500 h
end Go.Proofs.YtflcnhfakcgkeaaGreat
