import Derived.Test.YtfioeoihociilaaGreatSpecShape
import Derived.Test.YtfioeoihociilaaGreatCE2
import Derived.Test.YtfioeoihociilaaGreatCY2
import Derived.Test.YtfioeoihociilaaGreatCS4
namespace Go.Proofs.YtfioeoihociilaaGreat
open Go.RowKit
set_option linter.unusedSimpArgs false
set_option linter.unusedVariables false
theorem mul_le_500 {n : Nat} (h : n ≤ 500) : n * 3000 ≤ 1500000:=by omega
set_option maxRecDepth 100000 in
set_option maxHeartbeats 8000000 in
theorem l2Weights_ok (ns : List DNode) (v : Value) (w : World) (h1 : SlAt 5 112 RNode 0 w v ns) (hsm : EqSmall ns) (hnn : ns.length ≤ 200) :
  Calls Tryz.prog 29 #[.agg #[v]] w fun e w' => ∃ v,e = .returned v ∧ SlAt 1 8 RInt 0 w' v (wsTo ns ns.length) ∧ Below w.heap.size w w':=by
 have n1:=h1.len'
 obtain ⟨b0,c0,rfl⟩:=h1.shape
 have H1:=hide h1
 obtain ⟨_,_,hv0,_,_,hx⟩:=h1
 simp only [Value.slice.injEq] at hv0
 obtain ⟨rfl,_,rfl⟩:=hv0
 have HX:=hide hx
 have HSM:=hide hsm
 clear hx hsm
 have P0:=hide ((Below.refl w.heap.size w).alloc (Nat.le_refl _) (.cells #[.slice b0 ns.length c0] 30))
 have O0 : Hid (OwnInts ((w.alloc (.cells #[.slice b0 ns.length c0] 30)).alloc (.cells #[] 3)) (w.heap.size + 1) (w.heap.size + 1) 0 []):=by
  have:=OwnInts.start (w.alloc (.cells #[.slice b0 ns.length c0] 30)) (w.heap.size + 1) (by simp)
  show OwnInts _ _ _ _ _
  simpa using this
 go_enter Tryz.func29,Tryz.ntmps29
 go_wp2
 go_loopg [3,15] ns.length (fun gh wv i wr => ∃ (k g cap : Nat),k ≤ ns.length ∧ gh = ns.length - k ∧ i = .int .i64 k ∧ wv = .slice (some ⟨g,0,none⟩) k cap ∧ OwnInts wr (w.heap.size + 1) g cap (wsTo ns k) ∧ Below (w.heap.size + 1) (w.alloc (.cells #[.slice b0 ns.length c0] 30)) wr)
 case atStart => exact ⟨0,w.heap.size + 1,0,Nat.zero_le _,by omega,rfl,rfl,uh O0,(Below.refl _ _).alloc (by simp) _⟩
 case round =>
  obtain ⟨k,g,cap,hk,hg,rfl,rfl,hown,hblN⟩:=hrel
  rename World => wN
  have HG:=hide hg
  have HOW:=hide hown
  have HBN:=hide hblN
  have BN : Hid (Below w.heap.size w wN):=(uh P0).trans (hblN.mono (Nat.le_succ _))
  have hgN:=hown.lt
  have hgb:=hown.base
  have hNs : w.heap.size + 1 ≤ wN.heap.size:=by have:=hblN.size; simpa using this
  have hwl:=wsTo_length ns k
  have HWL:=hide hwl
  clear hg hown hblN hwl
  by_cases hlt : k < ns.length
  case neg =>
   have e : k = ns.length:=by omega
   subst e
   have HD:=hide ((uh HOW).at (fun x hx => by have:=wsTo_bd ns ns.length x hx; exact ⟨rfl,by omega,by omega⟩) (by rw [uh HWL]; omega))
   go_wp2
   go_ret
   refine ⟨_,rfl,?_,uh BN⟩
   have:=uh HD
   rw [uh HWL] at this
   exact this
  obtain ⟨b,o,cs,hbo,_,hb,hcs,hc,hR⟩:=uh HX k hlt
  subst hbo
  have hR:=RNode_kept.stays _ _ _ _ _ (uh BN) hR
  have hc : ∀ j (hj : j < cs.length),wN.cell? ⟨b,o + k * 5 + j,none⟩ = some cs[j]:=fun j hj => by rw [(uh BN).cell (p:=⟨b,_,none⟩) hb]; exact hc j hj
  have hsmk:=uh HSM ns[k] (List.getElem_mem hlt)
  have HNEXT : Hid (wsTo ns (k + 1) = wsTo ns k ++ [((wNodeTo ns k (wsTo ns k) ns[k].eqs ns[k].eqs.length : Nat) : Int)]):=by
   show wsTo ns (k + 1) = _
   rw [wsTo,List.getElem?_eq_getElem hlt]
  generalize ns[k] = nd at *
  obtain ⟨s,ins,outs,vars,eqs⟩:=nd
  obtain ⟨ni,no,nv,ne,rfl,hsn,q1,q2,q3,q4⟩:=hR
  simp only at hsn q1 q2 q3 q4 hsmk
  have HSK:=hide hsmk
  have l4:=q4.len'
  obtain ⟨b1,c1,rfl⟩:=q1.shape
  obtain ⟨b2,c2,rfl⟩:=q2.shape
  obtain ⟨b3,c3,rfl⟩:=q3.shape
  obtain ⟨b4,c4,rfl⟩:=q4.shape
  have G4:=hide q4
  have y0:=hc 0 (by simp)
  have y1:=hc 1 (by simp)
  have y2:=hc 2 (by simp)
  have y3:=hc 3 (by simp)
  have y4:=hc 4 (by simp)
  simp only [Nat.mul_one,Nat.add_zero,List.getElem_cons_zero,List.getElem_cons_succ] at y0 y1 y2 y3 y4
  clear q1 q2 q3 q4 hc hcs hsmk
  obtain ⟨_,_,hve,_,_,hex⟩:=uh G4
  simp only [Value.slice.injEq] at hve
  obtain ⟨rfl,_,rfl⟩:=hve
  have HEX:=hide hex
  clear hex
  go_wp2
  go_loopg [6,23] eqs.length (fun gh n i wr => ∃ (q : Nat),q ≤ eqs.length ∧ gh = eqs.length - q ∧ i = .int .i64 q ∧ n = .int .i64 (wNodeTo ns k (wsTo ns k) eqs q) ∧ Below (wN.heap.size + 1) (wN.alloc (.cells #[.string s,.slice b1 ins.length c1,.slice b2 outs.length c2,.slice b3 vars.length c3,.slice b4 eqs.length c4] 45)) wr)
  case atStart => exact ⟨0,Nat.zero_le _,by omega,rfl,rfl,Below.refl _ _⟩
  case round =>
   obtain ⟨q,hq,hg2,rfl,rfl,hblq⟩:=hrel
   rename World => wq
   have HG2:=hide hg2
   have HBQ:=hide hblq
   have BNQ : Hid (Below wN.heap.size wN wq):=((Below.refl _ _).alloc (Nat.le_refl _) _).trans (hblq.mono (Nat.le_succ _))
   have BQ : Hid (Below w.heap.size w wq):=(uh BN).trans ((uh BNQ).mono (uh BN).size)
   have hNq : wN.heap.size < wq.heap.size:=by have:=hblq.size; simp at this; omega
   have hwle:=wNodeTo_le ns k (wsTo ns k) eqs q
   clear hg2 hblq y0 y1 y2 y3 y4
   by_cases hltq : q < eqs.length
   case neg =>
    have e : q = eqs.length:=by omega
    have HOQ:=hide ((uh HOW).below (uh BNQ))
    have HNX : Hid (wsTo ns (k + 1) = wsTo ns k ++ [((wNodeTo ns k (wsTo ns k) eqs q : Nat) : Int)]):=by
     show wsTo ns (k + 1) = _
     rw [uh HNEXT,e]
    clear HNEXT
    generalize wNodeTo ns k (wsTo ns k) eqs q = wn at *
    have HOQ2 : Hid (OwnInts (wq.alloc (.cells #[.int .i64 (wn : Int)] 3)) (w.heap.size + 1) g cap (wsTo ns k)):=(uh HOQ).below ((Below.refl _ _).alloc (Nat.le_refl _) _)
    have HQ2 : Hid (Below (w.heap.size + 1) _ (wq.alloc (.cells #[.int .i64 (wn : Int)] 3))):=(uh HBN).trans (((uh BNQ).mono hNs).trans ((Below.refl _ _).alloc (by omega) _))
    go_wp2_with (at_builtin; go_must (refine wpList_append_oneInts _ rfl _ _ rfl (w.heap.size + 1) g cap (wsTo ns k) (by rw [uh HWL]; rfl) (uh HOQ2) wq.heap.size (wn : Int) rfl (by rw [World.cell?_alloc_at _ _ _ _ rfl]; rfl) (by rw [uh HWL]; omega) (by simp; omega) ?_))
    intro g' cap' w7 hown7 hgr7
    have B7:=grow_below (uh HQ2) hgr7 (by simp; omega) hgb
    rw [← uh HNX] at hown7
    have HO7:=hide hown7
    have HB7:=hide B7
    rw [uh HWL]
    clear hown7 hgr7 B7
    go_wp2
    go_roundg (ns.length - (k + 1))
    case measure => have:=uh HG; omega
    case rel => exact ⟨k + 1,g',cap',by omega,rfl,by go_num,rfl,uh HO7,uh HB7⟩
   obtain ⟨bq,oq,csq,hbo,_,hbq,hcsq,hcq,hRq⟩:=uh HEX q hltq
   subst hbo
   have hRq:=REq_kept.stays _ _ _ _ _ (uh BNQ) hRq
   have hcq : ∀ j (hj : j < csq.length),wq.cell? ⟨bq,oq + q * 4 + j,none⟩ = some csq[j]:=fun j hj => by rw [(uh BNQ).cell (p:=⟨bq,_,none⟩) hbq]; exact hcq j hj
   have hsq:=uh HSK eqs[q] (List.getElem_mem hltq)
   have HSTEP : Hid (wNodeTo ns k (wsTo ns k) eqs (q + 1) = wEqS ns k (wsTo ns k) (wNodeTo ns k (wsTo ns k) eqs q) eqs[q]):=by
    show wNodeTo ns k (wsTo ns k) eqs (q + 1) = _
    rw [wNodeTo,List.getElem?_eq_getElem hltq]
   generalize eqs[q] = ee at *
   obtain ⟨xl,xc,xs,xa⟩:=ee
   obtain ⟨el,ec,ea,rfl,hsx,e1,e2,e3⟩:=hRq
   simp only at hsx e1 e2 e3
   obtain ⟨f1,f1c,rfl⟩:=e1.shape
   obtain ⟨f2,f2c,rfl⟩:=e2.shape
   obtain ⟨f3,f3c,rfl⟩:=e3.shape
   have t0:=hcq 0 (by simp)
   have t1:=hcq 1 (by simp)
   have t2:=hcq 2 (by simp)
   have t3:=hcq 3 (by simp)
   simp only [Nat.mul_one,Nat.add_zero,List.getElem_cons_zero,List.getElem_cons_succ] at t0 t1 t2 t3
   have E2:=hide e2
   have E3:=hide e3
   have HSQ:=hide hsq
   have hib : innerN ⟨xl,xc,xs,xa⟩ ≤ 1500000:=by
    have a1:=innerTo_le (decide (xs.size = 0)) (codesOf ⟨xl,xc,xs,xa⟩) (codesOf ⟨xl,xc,xs,xa⟩).length
    have a2:=lensTo_le (codesOf ⟨xl,xc,xs,xa⟩) 3000 hsq.2 (codesOf ⟨xl,xc,xs,xa⟩).length
    have a3:=mul_le_500 hsq.1
    exact Nat.le_trans (Nat.le_trans a1 a2) a3
   have BE0:=hide ((Below.refl wq.heap.size wq).alloc (Nat.le_refl _) (.cells #[.slice f1 xl.length f1c,.slice f2 xc.length f2c,.string xs,.slice f3 xa.length f3c] 70))
   clear hcq hcsq e1 e2 e3 hsq
   generalize wNodeTo ns k (wsTo ns k) eqs q = wv0 at *
   go_wp2_with fail
   refine (l2Inner_ok ⟨xl,xc,xs,xa⟩ _ _ _ _ ((uh E2).stays RItem_kept (uh BE0)) ((uh E3).stays RItems_kept (uh BE0)) (uh HSQ).2 (uh HSQ).1).mono ?_
   rintro e w3 ⟨rfl,hb3⟩
   have HEB3:=hide (box_of hb3)
   have B3q : Hid (Below wq.heap.size wq w3):=(uh BE0).trans (hb3.mono (by simp))
   have m0 : w3.cell? ⟨wq.heap.size,0,none⟩ = some (.slice f1 xl.length f1c):=by rw [box_cell (B:=0) (uh HEB3) 0]; rfl
   have m1 : w3.cell? ⟨wq.heap.size,1,none⟩ = some (.slice f2 xc.length f2c):=by rw [box_cell (B:=0) (uh HEB3) 1]; rfl
   have m2 : w3.cell? ⟨wq.heap.size,2,none⟩ = some (.string xs):=by rw [box_cell (B:=0) (uh HEB3) 2]; rfl
   have m3 : w3.cell? ⟨wq.heap.size,3,none⟩ = some (.slice f3 xa.length f3c):=by rw [box_cell (B:=0) (uh HEB3) 3]; rfl
   have hq3 : wq.heap.size < w3.heap.size:=by have:=(uh HEB3).size; simp at this; omega
   have HE1 : Hid (wEqLen wv0 ⟨xl,xc,xs,xa⟩ = wv0 + (1 + 2 * innerN ⟨xl,xc,xs,xa⟩) + lensTo (codesOf ⟨xl,xc,xs,xa⟩) (codesOf ⟨xl,xc,xs,xa⟩).length):=rfl
   generalize innerN ⟨xl,xc,xs,xa⟩ = inn at *
   clear hb3 t0 t1 t2 t3
   go_wp2_with fail
   refine (l2Codes_ok ⟨xl,xc,xs,xa⟩ _ _ _ _ ((uh E2).stays RItem_kept (uh B3q)) ((uh E3).stays RItems_kept (uh B3q))).mono ?_
   rintro e w4 ⟨vc,rfl,hVC,hb4⟩
   have B4q : Hid (Below wq.heap.size wq w4):=(uh B3q).trans (hb4.mono (uh B3q).size)
   have HEB4 : Hid (Below (wq.heap.size + 1) _ w4):=(uh HEB3).trans (hb4.mono (by omega))
   have r2 : w4.cell? ⟨wq.heap.size,2,none⟩ = some (.string xs):=by rw [box_cell (B:=0) (uh HEB4) 2]; rfl
   have B4 : Hid (Below w.heap.size w w4):=(uh BQ).trans ((uh B4q).mono (uh BQ).size)
   have hq4 : wq.heap.size < w4.heap.size:=Nat.lt_of_lt_of_le hq3 hb4.size
   have BN4 : Hid (Below wN.heap.size wN w4):=(uh BNQ).trans ((uh B4q).mono (uh BNQ).size)
   have HPB4 : Hid (Below (w.heap.size + 1) _ w4):=(uh HBN).trans ((uh BN4).mono hNs)
   have p4 : w4.cell? ⟨w.heap.size,0,none⟩ = some (.slice (some ⟨b,o,none⟩) ns.length c0):=by rw [box_cell (B:=0) (uh HPB4) 0]; rfl
   have HCC:=hide (uh HSQ)
   obtain ⟨bv,cv,rfl⟩:=hVC.shape
   obtain ⟨_,_,hvv,_,hvn,hvx⟩:=hVC
   simp only [Value.slice.injEq] at hvv
   obtain ⟨rfl,_,rfl⟩:=hvv
   have HVX:=hide hvx
   have hcl:=(uh HSQ).2
   have hcn:=(uh HSQ).1
   have HCL:=hide hcl
   have HCD : Hid (codesOf ⟨xl,xc,xs,xa⟩ = codesOf ⟨xl,xc,xs,xa⟩):=rfl
   generalize hcds : codesOf ⟨xl,xc,xs,xa⟩ = cds at *
   have HCDS:=hide hcds
   clear hvx hb4 hcl hcds HCD HSQ HCC m0 m1 m2 m3
   unfold Len at hvn
   go_wp2
   go_loopg [6,36] cds.length (fun gh n i wr => ∃ (r : Nat),r ≤ cds.length ∧ gh = cds.length - r ∧ i = .int .i64 r ∧ n = .int .i64 ((wv0 + (1 + 2 * inn) + lensTo cds r : Nat) : Int) ∧ wr = w4)
   case atStart => exact ⟨0,Nat.zero_le _,by omega,rfl,int_eq (by simp [lensTo]),rfl⟩
   case round =>
    obtain ⟨r,hr,hg3,rfl,rfl,hwr⟩:=hrel
    subst hwr
    have HG3:=hide hg3
    have hlb:=lensTo_le cds 3000 (uh HCL) r
    have hlb2 : lensTo cds r ≤ 1500000:=Nat.le_trans hlb (mul_le_500 (by omega))
    clear hg3 hlb
    by_cases hlt3 : r < cds.length
    ·obtain ⟨bc,oc,csc,hbo,_,hbc,hcsc,hcc,hRc⟩:=uh HVX r hlt3
     subst hbo
     obtain ⟨va,rfl,hE⟩:=hRc
     obtain ⟨be,ce,rfl⟩:=hE.shape
     have u0:=hcc 0 (by simp)
     simp only [Nat.mul_one,Nat.add_zero,List.getElem_cons_zero,List.getElem_cons_succ] at u0
     have hel:=uh HCL cds[r] (List.getElem_mem hlt3)
     have HS : Hid (lensTo cds (r + 1) = lensTo cds r + cds[r].length):=by
      show lensTo cds (r + 1) = _
      rw [lensTo,List.getElem?_eq_getElem hlt3]
     clear hcc hcsc hE
     generalize cds[r] = cd at *
     generalize lensTo cds r = lr at *
     go_wp2
     go_roundg (cds.length - (r + 1))
     case measure => have:=uh HG3; omega
     case rel => exact ⟨r + 1,by omega,rfl,by go_num,int_eq (by have:=uh HS; omega),rfl⟩
    ·have e : r = cds.length:=by omega
     subst e
     have HWA : Hid (wEqLen wv0 ⟨xl,xc,xs,xa⟩ = wv0 + (1 + 2 * inn) + lensTo cds cds.length):=uh HE1
     have hwa : wv0 + (1 + 2 * inn) + lensTo cds cds.length ≤ 5000000:=by omega
     generalize hwae : wv0 + (1 + 2 * inn) + lensTo cds cds.length = wa at *
     have HWAE:=hide hwae
     clear hwae
     by_cases gs : xs.size = 0
     ·have d4:=empty_yes xs gs
      have d4':=isEmpty_yes xs gs
      have HCALL : Hid (wCall ns k (wsTo ns k) wa ⟨xl,xc,xs,xa⟩ = wa):=by
       show wCall ns k (wsTo ns k) wa ⟨xl,xc,xs,xa⟩ = wa
       unfold wCall
       rw [if_pos gs]
      clear gs
      by_cases hcap : 20000 < wa
      ·have dc : decide (20000 < ((wa : Nat) : Int)) = true:=by rw [decide_eq_true_iff]; omega
       have HV : Hid (wNodeTo ns k (wsTo ns k) eqs (q + 1) = 20001):=by
        show wNodeTo ns k (wsTo ns k) eqs (q + 1) = 20001
        rw [uh HSTEP,wEqS,uh HWA,uh HCALL,wCap,if_pos hcap]
       go_wp2
       go_roundg (eqs.length - (q + 1))
       case measure => have:=uh HG2; omega
       case rel => exact ⟨q + 1,by omega,rfl,by go_num,int_eq (by have:=uh HV; omega),(uh HBQ).trans ((uh B4q).mono (by omega))⟩
      ·have dc : decide (20000 < ((wa : Nat) : Int)) = false:=by rw [decide_eq_false_iff_not]; omega
       have HV : Hid (wNodeTo ns k (wsTo ns k) eqs (q + 1) = wa):=by
        show wNodeTo ns k (wsTo ns k) eqs (q + 1) = wa
        rw [uh HSTEP,wEqS,uh HWA,uh HCALL,wCap,if_neg hcap]
       go_wp2
       go_roundg (eqs.length - (q + 1))
       case measure => have:=uh HG2; omega
       case rel => exact ⟨q + 1,by omega,rfl,by go_num,int_eq (by have:=uh HV; omega),(uh HBQ).trans ((uh B4q).mono (by omega))⟩
     ·have d4:=empty_no xs gs
      have d4':=isEmpty_no xs gs
      have hfb:=find_bd ns k xs
      have HFI:=hide (fun w' (h : Below w.heap.size w w') => l2Find_ok ns _ k xs w' ((uh H1).stays RNode_kept h) hk)
      by_cases gf : findI ns k xs < 0
      ·have HCALL : Hid (wCall ns k (wsTo ns k) wa ⟨xl,xc,xs,xa⟩ = wa):=by
        show wCall ns k (wsTo ns k) wa ⟨xl,xc,xs,xa⟩ = wa
        unfold wCall
        rw [if_neg gs,if_pos gf]
       have dg : decide (0 ≤ findI ns k xs) = false:=by rw [decide_eq_false_iff_not]; omega
       clear gs
       generalize findI ns k xs = fi at *
       go_wp2_with fail
       refine (uh HFI _ (uh B4)).mono ?_
       rintro e w5 ⟨rfl,hb5⟩
       have B5q : Hid (Below wq.heap.size wq w5):=(uh B4q).trans (hb5.mono (uh B4q).size)
       clear hb5
       by_cases hcap : 20000 < wa
       ·have dc : decide (20000 < ((wa : Nat) : Int)) = true:=by rw [decide_eq_true_iff]; omega
        have HV : Hid (wNodeTo ns k (wsTo ns k) eqs (q + 1) = 20001):=by
         show wNodeTo ns k (wsTo ns k) eqs (q + 1) = 20001
         rw [uh HSTEP,wEqS,uh HWA,uh HCALL,wCap,if_pos hcap]
        go_wp2
        go_roundg (eqs.length - (q + 1))
        case measure => have:=uh HG2; omega
        case rel => exact ⟨q + 1,by omega,rfl,by go_num,int_eq (by have:=uh HV; omega),(uh HBQ).trans ((uh B5q).mono (by omega))⟩
       ·have dc : decide (20000 < ((wa : Nat) : Int)) = false:=by rw [decide_eq_false_iff_not]; omega
        have HV : Hid (wNodeTo ns k (wsTo ns k) eqs (q + 1) = wa):=by
         show wNodeTo ns k (wsTo ns k) eqs (q + 1) = wa
         rw [uh HSTEP,wEqS,uh HWA,uh HCALL,wCap,if_neg hcap]
        go_wp2
        go_roundg (eqs.length - (q + 1))
        case measure => have:=uh HG2; omega
        case rel => exact ⟨q + 1,by omega,rfl,by go_num,int_eq (by have:=uh HV; omega),(uh HBQ).trans ((uh B5q).mono (by omega))⟩
      ·have hfl : (findI ns k xs).toNat < (wsTo ns k).length:=by rw [uh HWL]; omega
       have HGD : Hid ((wsTo ns k).getD (findI ns k xs).toNat 0 = (wsTo ns k)[(findI ns k xs).toNat]):=by
        show (wsTo ns k).getD _ 0 = _
        simp [List.getD,hfl]
       have hvb:=wsTo_bd ns k (wsTo ns k)[(findI ns k xs).toNat] (List.getElem_mem hfl)
       have HCALL0 : Hid (wCall ns k (wsTo ns k) wa ⟨xl,xc,xs,xa⟩ = wa + ((wsTo ns k)[(findI ns k xs).toNat]).toNat):=by
        show wCall ns k (wsTo ns k) wa ⟨xl,xc,xs,xa⟩ = _
        unfold wCall
        rw [if_neg gs,if_neg gf,uh HGD]
       have HCELL:=hide ((uh HOW).cell _ hfl)
       have dg : decide (0 ≤ findI ns k xs) = true:=by rw [decide_eq_true_iff]; omega
       clear gs HGD
       generalize (wsTo ns k)[(findI ns k xs).toNat] = wf at *
       generalize findI ns k xs = fi at *
       obtain ⟨fn,rfl⟩:=Int.eq_ofNat_of_zero_le (show 0 ≤ fi by omega)
       obtain ⟨wfn,rfl⟩:=Int.eq_ofNat_of_zero_le hvb.1
       have HCALL : Hid (wCall ns k (wsTo ns k) wa ⟨xl,xc,xs,xa⟩ = wa + wfn):=by
        show wCall ns k (wsTo ns k) wa ⟨xl,xc,xs,xa⟩ = wa + wfn
        rw [uh HCALL0,Int.toNat_natCast]
       have hwfn : wfn ≤ 20001:=by omega
       have hfk : fn < k:=by omega
       have hfk' : (fn : Int) < (k : Int):=by omega
       rw [Int.toNat_natCast] at HCELL
       clear HCALL0 hvb hfl hfb gf
       go_wp2_with fail
       refine (uh HFI _ (uh B4)).mono ?_
       rintro e w5 ⟨rfl,hb5⟩
       have B5q : Hid (Below wq.heap.size wq w5):=(uh B4q).trans (hb5.mono (uh B4q).size)
       have B5 : Hid (Below w.heap.size w w5):=(uh B4).trans (hb5.mono (uh B4).size)
       have s2 : w5.cell? ⟨wq.heap.size,2,none⟩ = some (.string xs):=by rw [hb5.cell (p:=⟨wq.heap.size,2,none⟩) hq4]; exact r2
       have p5 : w5.cell? ⟨w.heap.size,0,none⟩ = some (.slice (some ⟨b,o,none⟩) ns.length c0):=by rw [hb5.cell (p:=⟨w.heap.size,0,none⟩) (Nat.lt_of_lt_of_le (show w.heap.size < wN.heap.size by omega) (Nat.le_of_lt (Nat.lt_trans hNq hq4)))]; exact p4
       clear hb5 r2 p4
       go_wp2_with fail
       refine (uh HFI _ (uh B5)).mono ?_
       rintro e w6 ⟨rfl,hb6⟩
       have B6q : Hid (Below wq.heap.size wq w6):=(uh B5q).trans (hb6.mono (uh B5q).size)
       have BN6 : Hid (Below wN.heap.size wN w6):=(uh BNQ).trans ((uh B6q).mono (uh BNQ).size)
       have z6 : w6.cell? ⟨g,fn,none⟩ = some (.int .i64 (wfn : Int)):=by rw [(uh BN6).cell (p:=⟨g,fn,none⟩) hgN]; exact uh HCELL
       clear hb6 s2 p5
       by_cases hcap : 20000 < (wa + wfn)
       ·have dc : decide (20000 < (((wa + wfn) : Nat) : Int)) = true:=by rw [decide_eq_true_iff]; omega
        have HV : Hid (wNodeTo ns k (wsTo ns k) eqs (q + 1) = 20001):=by
         show wNodeTo ns k (wsTo ns k) eqs (q + 1) = 20001
         rw [uh HSTEP,wEqS,uh HWA,uh HCALL,wCap,if_pos hcap]
        go_wp2
        go_roundg (eqs.length - (q + 1))
        case measure => have:=uh HG2; omega
        case rel => exact ⟨q + 1,by omega,rfl,by go_num,int_eq (by have:=uh HV; omega),(uh HBQ).trans ((uh B6q).mono (by omega))⟩
       ·have dc : decide (20000 < (((wa + wfn) : Nat) : Int)) = false:=by rw [decide_eq_false_iff_not]; omega
        have HV : Hid (wNodeTo ns k (wsTo ns k) eqs (q + 1) = (wa + wfn)):=by
         show wNodeTo ns k (wsTo ns k) eqs (q + 1) = (wa + wfn)
         rw [uh HSTEP,wEqS,uh HWA,uh HCALL,wCap,if_neg hcap]
        go_wp2
        go_roundg (eqs.length - (q + 1))
        case measure => have:=uh HG2; omega
        case rel => exact ⟨q + 1,by omega,rfl,by go_num,int_eq (by have:=uh HV; omega),(uh HBQ).trans ((uh B6q).mono (by omega))⟩
def eqCode (ns : List DNode) (i : Nat) (x : DNode) (k : Nat) : Int:=match x.eqs[k]? with
 | some e => if (firstTo (lhsBad (allV x) x.ins.length (seenTo x.eqs k) e.lhs) e.lhs.length).isSome then 4 else eqFault ns i (allV x) e
 | none => 0
def nodeFault (ns : List DNode) (i : Nat) (x : DNode) : Int × Int :=
 if 0 ≤ findI ns i x.name then (2,0) else
 match firstTo (dupB (allV x)) (allV x).length with
 | some k => (2,(k : Int) + 1)
 | none => match firstTo (clkBad (allV x)) (allV x).length with
  | some k => (3,(k : Int))
  | none => match firstTo (fun k => eqCode ns i x k != 0) x.eqs.length with
   | some k => (eqCode ns i x k,(k : Int))
   | none =>
    if (seenTo x.eqs x.eqs.length).length ≠ x.outs.length + x.vars.length then (4,(x.eqs.length : Int)) else
    if cycB x then (8,0) else
    if 20000 < (wsTo ns ns.length).getD i 0 ∨ 500 < (allV x).length + innTot x.eqs x.eqs.length ∨ 500 < x.eqs.length + innTot x.eqs x.eqs.length then (9,0) else (0,0)
theorem nf_name {ns : List DNode} {i : Nat} {x : DNode} (h : 0 ≤ findI ns i x.name) : nodeFault ns i x = (2,0):=by unfold nodeFault; rw [if_pos h]
theorem nf_dup {ns : List DNode} {i : Nat} {x : DNode} (h : ¬ 0 ≤ findI ns i x.name) {k : Nat} (h2 : firstTo (dupB (allV x)) (allV x).length = some k) : nodeFault ns i x = (2,(k : Int) + 1):=by unfold nodeFault; rw [if_neg h,h2]
theorem nf_decl {ns : List DNode} {i : Nat} {x : DNode} (h : ¬ 0 ≤ findI ns i x.name) (h2 : firstTo (dupB (allV x)) (allV x).length = none) {k : Nat} (h3 : firstTo (clkBad (allV x)) (allV x).length = some k) : nodeFault ns i x = (3,(k : Int)):=by unfold nodeFault; rw [if_neg h,h2,h3]
theorem nf_eq {ns : List DNode} {i : Nat} {x : DNode} (h : ¬ 0 ≤ findI ns i x.name) (h2 : firstTo (dupB (allV x)) (allV x).length = none) (h3 : firstTo (clkBad (allV x)) (allV x).length = none) {k : Nat} (h4 : firstTo (fun k => eqCode ns i x k != 0) x.eqs.length = some k) : nodeFault ns i x = (eqCode ns i x k,(k : Int)):=by unfold nodeFault; rw [if_neg h,h2,h3,h4]
theorem nf_rest {ns : List DNode} {i : Nat} {x : DNode} (h : ¬ 0 ≤ findI ns i x.name) (h2 : firstTo (dupB (allV x)) (allV x).length = none) (h3 : firstTo (clkBad (allV x)) (allV x).length = none) (h4 : firstTo (fun k => eqCode ns i x k != 0) x.eqs.length = none) :
  nodeFault ns i x = if (seenTo x.eqs x.eqs.length).length ≠ x.outs.length + x.vars.length then (4,(x.eqs.length : Int)) else if cycB x then (8,0) else if 20000 < (wsTo ns ns.length).getD i 0 ∨ 500 < (allV x).length + innTot x.eqs x.eqs.length ∨ 500 < x.eqs.length + innTot x.eqs x.eqs.length then (9,0) else (0,0):=by unfold nodeFault; rw [if_neg h,h2,h3,h4]
theorem eq_at (ns : List DNode) (i : Nat) (x : DNode) (k : Nat) (hk : k < x.eqs.length) : eqCode ns i x k = if (firstTo (lhsBad (allV x) x.ins.length (seenTo x.eqs k) x.eqs[k].lhs) x.eqs[k].lhs.length).isSome then 4 else eqFault ns i (allV x) x.eqs[k]:=by unfold eqCode; rw [List.getElem?_eq_getElem hk]
theorem innTot_le (eqs : List DEq) (h : ∀ e,e ∈ eqs → innerN e ≤ 1500000) (k : Nat) : innTot eqs k ≤ k * 1500000:=by
 have h' : ∀ M,(∀ e,e ∈ eqs → innerN e ≤ M) → innTot eqs k ≤ k * M:=fun M hM => by
  induction k with
  | zero => simp [innTot]
  | succ k ih =>
   unfold innTot
   rw [Nat.succ_mul]
   cases hc : eqs[k]? with
   | none => simp only; omega
   | some e =>
    have:=hM e (List.mem_of_getElem? hc)
    simp only
    omega
 exact h' 1500000 h
theorem shape_len2 (ns : List DNode) (h : shapeB ns = true) : ns.length ≤ 200:=by
 unfold shapeB at h
 simp only [Bool.and_eq_true,decide_eq_true_iff] at h
 exact h.1.2
theorem name_len {s : ByteArray} (h : nameB s = true) : s.size ≤ 40:=by
 unfold nameB plainB freshB at h
 simp only [Bool.or_eq_true,Bool.and_eq_true,decide_eq_true_iff] at h
 rcases h with h | h
 ·exact h.1.1.1.2
 ·omega
theorem node_vars {x : DNode} (h : nodeB x = true) : ∀ v,v ∈ allV x → varB v = true:=by
 have hn:=(node_iff x).1 h
 intro v hv
 unfold allV at hv
 rcases List.mem_append.1 hv with hv | hv
 ·rcases List.mem_append.1 hv with hv | hv
  ·exact ((port_iff v).1 (List.all_eq_true.1 hn.2.2.1 v hv)).2
  ·exact ((port_iff v).1 (List.all_eq_true.1 hn.2.2.2.1 v hv)).2
 ·exact List.all_eq_true.1 hn.2.2.2.2.1 v hv
theorem look_mem (vs : List DVar) (nm : ByteArray) : lookV vs nm ∈ vs ∨ lookV vs nm = ⟨⟨#[]⟩,0,[]⟩:=by
 unfold lookV
 split
 ·exact Or.inl (List.getElem_mem _)
 ·exact Or.inr rfl
theorem clk_len {x : DNode} (h : nodeB x = true) (nm : ByteArray) : (clkOf (allV x) nm).length ≤ 8:=by
 unfold clkOf
 rcases look_mem (allV x) nm with hm | hm
 ·exact ((var_iff _).1 (node_vars h _ hm)).2.2.1
 ·rw [hm]; simp
theorem clk_names {x : DNode} (h : nodeB x = true) (nm : ByteArray) : ∀ c,c ∈ clkOf (allV x) nm → nameB c.name = true:=by
 unfold clkOf
 intro c hc
 rcases look_mem (allV x) nm with hm | hm
 ·exact List.all_eq_true.1 ((var_iff _).1 (node_vars h _ hm)).2.2.2 c hc
 ·rw [hm] at hc; simp at hc
theorem clkTo_names {x : DNode} (h : nodeB x = true) (lhs : List ByteArray) (k : Nat) : ∀ nm,nm ∈ clkTo (allV x) lhs k → nameB nm = true:=by
 induction k with
 | zero => intro nm hm; simp [clkTo] at hm
 | succ k ih =>
  intro nm hm
  unfold clkTo at hm
  rcases List.mem_append.1 hm with hm | hm
  ·exact ih nm hm
  ·cases hl : lhs[k]? with
   | none => rw [hl] at hm; simp at hm
   | some y =>
    rw [hl] at hm
    simp only [List.mem_map] at hm
    obtain ⟨c,hc,rfl⟩:=hm
    exact clk_names h y c hc
theorem visTo_names {c : List DItem} (h : cdB c = true) (k : Nat) : ∀ nm,nm ∈ visTo c k → nameB nm = true:=by
 induction k with
 | zero => intro nm hm; simp [visTo] at hm
 | succ k ih =>
  intro nm hm
  unfold visTo at hm
  rcases List.mem_append.1 hm with hm | hm
  ·exact ih nm hm
  ·unfold visOne at hm
   cases hl : c[k]? with
   | none => rw [hl] at hm; simp at hm
   | some t =>
    rw [hl] at hm
    simp only at hm
    by_cases hz : t.name.size = 0
    ·rw [if_pos hz] at hm; simp at hm
    ·rw [if_neg hz] at hm
     split at hm
     ·simp at hm
     ·simp only [List.mem_singleton] at hm
      subst hm
      have ht:=((it_iff t).1 ((code_items c h).1 t (List.mem_of_getElem? hl))).2.2
      unfold nmB at ht
      split at ht
      ·exact ht
      ·simp only [decide_eq_true_iff] at ht; exact absurd ht hz
theorem visAll_names {codes : List (List DItem)} (h : ∀ c,c ∈ codes → cdB c = true) (k : Nat) : ∀ nm,nm ∈ visAll codes k → nameB nm = true:=by
 induction k with
 | zero => intro nm hm; simp [visAll] at hm
 | succ k ih =>
  intro nm hm
  unfold visAll at hm
  rcases List.mem_append.1 hm with hm | hm
  ·exact ih nm hm
  ·cases hl : codes[k]? with
   | none => rw [hl] at hm; simp at hm
   | some c =>
    rw [hl] at hm
    exact visTo_names (h c (List.mem_of_getElem? hl)) _ nm hm
theorem reads_names {x : DNode} (h : nodeB x = true) (e : DEq) (he : e ∈ x.eqs) : ∀ nm,nm ∈ readsOf (allV x) e → nameB nm = true:=by
 intro nm hm
 unfold readsOf at hm
 rcases List.mem_append.1 hm with hm | hm
 ·exact clkTo_names h _ _ nm hm
 ·exact visAll_names (eq_codes e (List.all_eq_true.1 ((node_iff x).1 h).2.2.2.2.2 e he)) _ nm hm
theorem seen_names {x : DNode} (h : nodeB x = true) (k : Nat) : ∀ nm,nm ∈ seenTo x.eqs k → nameB nm = true:=by
 induction k with
 | zero => intro nm hm; simp [seenTo] at hm
 | succ k ih =>
  intro nm hm
  unfold seenTo at hm
  rcases List.mem_append.1 hm with hm | hm
  ·exact ih nm hm
  ·cases hl : x.eqs[k]? with
   | none => rw [hl] at hm; simp at hm
   | some e =>
    rw [hl] at hm
    have:=List.all_eq_true.1 ((node_iff x).1 h).2.2.2.2.2 e (List.mem_of_getElem? hl)
    unfold eqB at this
    simp only [Bool.and_eq_true] at this
    exact List.all_eq_true.1 this.1.2 nm hm
theorem seen_len (eqs : List DEq) (h : ∀ e,e ∈ eqs → e.lhs.length ≤ 500) (k : Nat) : (seenTo eqs k).length ≤ k * 500:=by
 have h' : ∀ M,(∀ e,e ∈ eqs → e.lhs.length ≤ M) → (seenTo eqs k).length ≤ k * M:=fun M hM => by
  induction k with
  | zero => simp [seenTo]
  | succ k ih =>
   unfold seenTo
   rw [List.length_append,Nat.succ_mul]
   cases hc : eqs[k]? with
   | none => simp only [List.length_nil]; omega
   | some e =>
    have:=hM e (List.mem_of_getElem? hc)
    simp only
    omega
 exact h' 500 h
end Go.Proofs.YtfioeoihociilaaGreat
