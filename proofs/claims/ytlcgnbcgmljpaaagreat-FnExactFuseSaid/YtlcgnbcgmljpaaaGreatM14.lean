import Derived.Test.YtlcgnbcgmljpaaaGreatFW
namespace Go.Proofs.YtlcgnbcgmljpaaaGreat
open Go.RowKit
set_option linter.unusedSimpArgs false
set_option linter.unusedVariables false
theorem Jl {a b c:Bool} (h:c=(a&&b)) (ha:a=false):c=false:=by rw[h,ha];rfl
theorem Nu {a b c:Bool} (h:c=(a&&b)) (ha:a=true):c=b:=by rw[h,ha];rfl
theorem Y9 {n:Bool} {p q r s:Prop} [Decidable p] [Decidable q] [Decidable r] [Decidable s] (h:n=false∨¬p∨¬q∨¬r∨¬s):(n&&decide p&&decide q&&decide r&&decide s)=false:=by
 rcases h with h|h|h|h|h<;>simp[h]
theorem aqg (vars:List ByteArray) (i:Nat) (hi:i<vars.length):Jk vars i=(!nameB vars[i]||decide (iy vars vars[i]<(i:Int))):=by
 unfold Jk
 rw[List.getElem?_eq_getElem hi]
theorem att (body:List dh) (i:Nat) (hi:i<body.length):Jz body i=(body[i].kind == 4&&(List.range (je (dn body) i).2.toNat).any (fun j=>decide (i<=j)&&(match body[j]? with|some t=>Oc t body[i].name|none=>false))):=by
 unfold Jz
 rw[List.getElem?_eq_getElem hi]
 rfl
theorem atu (ks:List Int) (i:Nat):(je ks i).2<(ks.length:Int) ∧ -1<=(je ks i).2∨(je ks i).2<0:=by
 by_cases h:0<=(je ks i).2
 ·left
  have:=aqh (ks.drop i) i 0 (-1) h
  rw[List.length_drop] at this
  unfold je at *
  omega
 ·right;omega
theorem aw6 {n:Nat} {p:Nat->Bool} (i:Nat) (hi:i<n) (h:p i=true):(List.range n).any p=true:=by
 rw[List.any_eq_true]
 exact⟨i,List.mem_range.2 hi,h⟩
theorem azv {n:Nat} {p:Nat->Bool} (h:∀j,j<n->p j=false):(List.range n).any p=false:=by
 rw[List.any_eq_false]
 intro x hx
 rw[h x (List.mem_range.1 hx)]
 simp
theorem atw (ks:List ak) (i:Nat) (hi:i<ks.length):Bf ks i=((nameB ks[i].name&&decide (1<=ks[i].outs.length)&&decide (ks[i].aj.length<=1000)&&decide (ks[i].insts.length<=1000)&&decide (ks[i].body.length<=30000))
  && ((List.range i).all (fun j=>!(match ks[j]? with|some y=>y.name.toList == ks[i].name.toList|none=>false))
  && (decide ((varsOf ks[i]).length<=1000)
  && ((List.range (varsOf ks[i]).length).all (fun j=>!Jk (varsOf ks[i]) j)
  && ((ks[i].ins++ks[i].outs).all (fun t=>decide (1<=t.type∧t.type<=2))
  && (ks[i].aj.all Si
  && (ks[i].insts.all (fun g=>decide (0<=g∧g<(i:Int)))
  && (ks[i].body.all (ny ks ks[i])
  && (zi (ks[i].body.length+1) (dn ks[i].body) 0
  && (List.range ks[i].body.length).all (fun j=>!Jz ks[i].body j)))))))))):=by
 unfold Bf
 rw[List.getElem?_eq_getElem hi]
 rfl
set_option maxRecDepth 20000 in
set_option maxHeartbeats 8000000 in
theorem ajb (ks:List ak) (v:Value) (at':Nat) (w:World) (hm:bf 7 160 ni 0 w v ks) (hat:at'<ks.length) (hsum:∀i (hi:i<ks.length),ks[i].ins.length+ks[i].outs.length+ks[i].ay.length<=1048576) :
  Calls Tryz.prog 23 #[.agg #[v],.int .i64 (at':Int)] w (Ans (.bool (Bf ks at')) w):=by
 have Xz:=hide hm
 have hlm:=hm.uy
 obtain⟨_,cm,rfl,_,_,hx⟩:=hm
 obtain⟨bm,om,cs,rfl,_,hbm,_,hc,⟨v1,v2,v3,v4,v5,v6,rfl,hnl,t1,t2,t3,t4,t5,t6⟩⟩:=hx at' hat
 have Vf:Hid (F7 w ks[at'] v1 v2 v3 v4 v5 v6):=⟨t1,t2,t3,t4,t5,t6,hnl,hsum at' hat⟩
 have V4:Hid (∀j (hj:j<ks.length),bm<w.heap.size∧w.cell? ⟨bm,om+j*7,none⟩=some (.string ks[j].name)):=fun j hj=>by
  obtain⟨b9,o9,cs9,e9,_,jc,_,hc9,⟨_,_,_,_,_,_,rfl,_⟩⟩:=hx j hj
  simp only[Option.some.injEq,Addr.mk.injEq] at e9
  obtain⟨rfl,rfl,_⟩:=e9
  exact⟨jc,hc9 0 (by simp)⟩
 have HB:=hide (atw ks at' hat)
 generalize Bf ks at'=R at *
 generalize hk:ks[at']=k at *
 clear hk hx hsum
 obtain⟨b1,c1,rfl⟩:=t1.shape
 obtain⟨b2,c2,rfl⟩:=t2.shape
 obtain⟨b3,c3,rfl⟩:=t3.shape
 obtain⟨b4,c4,rfl⟩:=t4.shape
 obtain⟨b5,c5,rfl⟩:=t5.shape
 obtain⟨b6,c6,rfl⟩:=t6.shape
 have l2:=t2.uy
 have l4:=t4.uy
 have l5:=t5.uy
 have l6:=t6.uy
 have y0:=hc 0 (by simp)
 have y1:=hc 1 (by simp)
 have y2:=hc 2 (by simp)
 have y3:=hc 3 (by simp)
 have y4:=hc 4 (by simp)
 have y5:=hc 5 (by simp)
 have y6:=hc 6 (by simp)
 simp only[Nat.add_zero,List.getElem_cons_zero,List.getElem_cons_succ] at y0 y1 y2 y3 y4 y5 y6
 clear t1 t2 t3 t4 t5 t6 hc
 have hA1:Below w.heap.size w (w.alloc (.cells #[.slice (some ⟨bm,om,none⟩) ks.length cm] 28)):=(Below.refl _ _).alloc (Nat.le_refl _) _
 have hA:Below w.heap.size w ((w.alloc (.cells #[.slice (some ⟨bm,om,none⟩) ks.length cm] 28)).alloc (.cells #[.string k.name,.slice b1 k.ins.length c1,.slice b2 k.outs.length c2,.slice b3 k.ay.length c3,.slice b4 k.aj.length c4,.slice b5 k.insts.length c5,.slice b6 k.body.length c6] 43)):=hA1.alloc (by simp) _
 have hB1:au ((w.alloc (.cells #[.slice (some ⟨bm,om,none⟩) ks.length cm] 28)).alloc (.cells #[.string k.name,.slice b1 k.ins.length c1,.slice b2 k.outs.length c2,.slice b3 k.ay.length c3,.slice b4 k.aj.length c4,.slice b5 k.insts.length c5,.slice b6 k.body.length c6] 43)) w.heap.size 28 #[.slice (some ⟨bm,om,none⟩) ks.length cm]:=(jl w #[.slice (some ⟨bm,om,none⟩) ks.length cm] 28).below ((Below.refl _ _).alloc (Nat.le_refl _) _) (by simp)
 have hB2:au ((w.alloc (.cells #[.slice (some ⟨bm,om,none⟩) ks.length cm] 28)).alloc (.cells #[.string k.name,.slice b1 k.ins.length c1,.slice b2 k.outs.length c2,.slice b3 k.ay.length c3,.slice b4 k.aj.length c4,.slice b5 k.insts.length c5,.slice b6 k.body.length c6] 43)) (w.heap.size+1) 43 #[.string k.name,.slice b1 k.ins.length c1,.slice b2 k.outs.length c2,.slice b3 k.ay.length c3,.slice b4 k.aj.length c4,.slice b5 k.insts.length c5,.slice b6 k.body.length c6]:=by
  have h0:=jl (w.alloc (.cells #[.slice (some ⟨bm,om,none⟩) ks.length cm] 28)) #[.string k.name,.slice b1 k.ins.length c1,.slice b2 k.outs.length c2,.slice b3 k.ay.length c3,.slice b4 k.aj.length c4,.slice b5 k.insts.length c5,.slice b6 k.body.length c6] 43
  rw[show (w.alloc (.cells #[.slice (some ⟨bm,om,none⟩) ks.length cm] 28)).heap.size=w.heap.size+1 from by simp] at h0
  exact h0
 obtain⟨BX,gq⟩:∃BX:World->Prop,∀w',BX w'↔Below (w.heap.size+2) ((w.alloc (.cells #[.slice (some ⟨bm,om,none⟩) ks.length cm] 28)).alloc (.cells #[.string k.name,.slice b1 k.ins.length c1,.slice b2 k.outs.length c2,.slice b3 k.ay.length c3,.slice b4 k.aj.length c4,.slice b5 k.insts.length c5,.slice b6 k.body.length c6] 43)) w':=⟨_,fun _=>Iff.rfl⟩
 have Oq:((w.alloc (.cells #[.slice (some ⟨bm,om,none⟩) ks.length cm] 28)).alloc (.cells #[.string k.name,.slice b1 k.ins.length c1,.slice b2 k.outs.length c2,.slice b3 k.ay.length c3,.slice b4 k.aj.length c4,.slice b5 k.insts.length c5,.slice b6 k.body.length c6] 43)).heap.size=w.heap.size+2:=by simp
 have mg:Hid (∀w1,BX w1->Below w.heap.size w w1):=fun w1 h=>hA.trans (((gq w1).1 h).mono (by omega))
 have qp:Hid (∀w1 w2,BX w1->Below w1.heap.size w1 w2->BX w2):=fun w1 w2 h h2=>(gq w2).2 (((gq w1).1 h).trans (h2.mono (by have:=((gq w1).1 h).size;omega)))
 have yg:Hid (∀w1,BX w1->w1.cell? ⟨w.heap.size,0,none⟩=some (.slice (some ⟨bm,om,none⟩) ks.length cm)∧w1.cell? ⟨w.heap.size+1,0,none⟩=some (.string k.name)∧w1.cell? ⟨w.heap.size+1,1,none⟩=some (.slice b1 k.ins.length c1)∧w1.cell? ⟨w.heap.size+1,2,none⟩=some (.slice b2 k.outs.length c2)∧w1.cell? ⟨w.heap.size+1,3,none⟩=some (.slice b3 k.ay.length c3)∧w1.cell? ⟨w.heap.size+1,4,none⟩=some (.slice b4 k.aj.length c4)∧w1.cell? ⟨w.heap.size+1,5,none⟩=some (.slice b5 k.insts.length c5)∧w1.cell? ⟨w.heap.size+1,6,none⟩=some (.slice b6 k.body.length c6)):=fun w1 h=>⟨(hB1.below ((gq w1).1 h) (by omega)).cell (i:=0) (v:=.slice (some ⟨bm,om,none⟩) ks.length cm) rfl,(hB2.below ((gq w1).1 h) (by omega)).cell (i:=0) (v:=.string k.name) rfl,(hB2.below ((gq w1).1 h) (by omega)).cell (i:=1) (v:=.slice b1 k.ins.length c1) rfl,(hB2.below ((gq w1).1 h) (by omega)).cell (i:=2) (v:=.slice b2 k.outs.length c2) rfl,(hB2.below ((gq w1).1 h) (by omega)).cell (i:=3) (v:=.slice b3 k.ay.length c3) rfl,(hB2.below ((gq w1).1 h) (by omega)).cell (i:=4) (v:=.slice b4 k.aj.length c4) rfl,(hB2.below ((gq w1).1 h) (by omega)).cell (i:=5) (v:=.slice b5 k.insts.length c5) rfl,(hB2.below ((gq w1).1 h) (by omega)).cell (i:=6) (v:=.slice b6 k.body.length c6) rfl⟩
 have Ky:Hid (∀w1,BX w1->w.heap.size+2<=w1.heap.size):=fun w1 h=>by have:=((gq w1).1 h).size;omega
 have HX0:Hid (BX ((w.alloc (.cells #[.slice (some ⟨bm,om,none⟩) ks.length cm] 28)).alloc (.cells #[.string k.name,.slice b1 k.ins.length c1,.slice b2 k.outs.length c2,.slice b3 k.ay.length c3,.slice b4 k.aj.length c4,.slice b5 k.insts.length c5,.slice b6 k.body.length c6] 43))):=(gq _).2 (Below.refl _ _)
 have HX3:Hid (∀w1 w2 v (xs:List gy),BX w1->dw yh w1 (w.heap.size+2) v xs->w1.grownBy w2 v.ownBlock->BX w2):=fun w1 w2 v xs h ho hg=>(gq w2).2 (ho.grown ((gq w1).1 h) hg (by have:=((gq w1).1 h).size;omega) (Nat.le_refl _))
 have HCN:=hide (Xx k.name ((w.alloc (.cells #[.slice (some ⟨bm,om,none⟩) ks.length cm] 28)).alloc (.cells #[.string k.name,.slice b1 k.ins.length c1,.slice b2 k.outs.length c2,.slice b3 k.ay.length c3,.slice b4 k.aj.length c4,.slice b5 k.insts.length c5,.slice b6 k.body.length c6] 43)) hnl)
 have hat':(at':Int)<(ks.length:Int):=by omega
 have HR:=HB
 clear HB hA1 hA hB1 hB2 gq Oq
 generalize nameB k.name=nb at *
 cases nb
 ·have HF:=hide (Jl (uh HR) (Y9 (Or.inl rfl)))
  clear HR
  go_enter Tryz.func23,Tryz.ntmps23
  go_wp2_with fail
  refine(uh HCN).mono ?_
  rintro e wn ⟨rfl,hbn⟩
  have hxn:=uh qp _ _ (uh HX0) hbn
  have Ld:=hide hxn
  obtain⟨q0,q1,q2,q3,q4,q5,q6,q7⟩:=uh yg _ hxn
  have Rk:=hide (uh mg _ hxn)
  clear hbn hxn
  go_wp2
  go_ret
  exact⟨jf (uh HF).symm,uh Rk⟩
 by_cases hq:1<=k.outs.length
 case neg =>
  have d9:decide ((k.outs.length:Int)<1)=true:=decide_eq_true (by omega)
  have HF:=hide (Jl (uh HR) (Y9 (Or.inr (Or.inl hq))))
  clear HR hq
  go_enter Tryz.func23,Tryz.ntmps23
  go_wp2_with fail
  refine(uh HCN).mono ?_
  rintro e wn ⟨rfl,hbn⟩
  have hxn:=uh qp _ _ (uh HX0) hbn
  have Ld:=hide hxn
  obtain⟨q0,q1,q2,q3,q4,q5,q6,q7⟩:=uh yg _ hxn
  have Rk:=hide (uh mg _ hxn)
  clear hbn hxn
  go_wp2
  go_ret
  exact⟨jf (uh HF).symm,uh Rk⟩
 have f1:decide ((k.outs.length:Int)<1)=false:=decide_eq_false (by omega)
 have E1:=hide hq
 clear hq
 by_cases hq:k.aj.length<=1000
 case neg =>
  have d9:decide (1000<(k.aj.length:Int))=true:=decide_eq_true (by omega)
  have HF:=hide (Jl (uh HR) (Y9 (Or.inr (Or.inr (Or.inl hq)))))
  clear HR hq
  go_enter Tryz.func23,Tryz.ntmps23
  go_wp2_with fail
  refine(uh HCN).mono ?_
  rintro e wn ⟨rfl,hbn⟩
  have hxn:=uh qp _ _ (uh HX0) hbn
  have Ld:=hide hxn
  obtain⟨q0,q1,q2,q3,q4,q5,q6,q7⟩:=uh yg _ hxn
  have Rk:=hide (uh mg _ hxn)
  clear hbn hxn
  go_wp2
  go_ret
  exact⟨jf (uh HF).symm,uh Rk⟩
 have f2:decide (1000<(k.aj.length:Int))=false:=decide_eq_false (by omega)
 have E2:=hide hq
 clear hq
 by_cases hq:k.insts.length<=1000
 case neg =>
  have d9:decide (1000<(k.insts.length:Int))=true:=decide_eq_true (by omega)
  have HF:=hide (Jl (uh HR) (Y9 (Or.inr (Or.inr (Or.inr (Or.inl hq))))))
  clear HR hq
  go_enter Tryz.func23,Tryz.ntmps23
  go_wp2_with fail
  refine(uh HCN).mono ?_
  rintro e wn ⟨rfl,hbn⟩
  have hxn:=uh qp _ _ (uh HX0) hbn
  have Ld:=hide hxn
  obtain⟨q0,q1,q2,q3,q4,q5,q6,q7⟩:=uh yg _ hxn
  have Rk:=hide (uh mg _ hxn)
  clear hbn hxn
  go_wp2
  go_ret
  exact⟨jf (uh HF).symm,uh Rk⟩
 have f3:decide (1000<(k.insts.length:Int))=false:=decide_eq_false (by omega)
 have E3:=hide hq
 clear hq
 by_cases hq:k.body.length<=30000
 case neg =>
  have d9:decide (30000<(k.body.length:Int))=true:=decide_eq_true (by omega)
  have HF:=hide (Jl (uh HR) (Y9 (Or.inr (Or.inr (Or.inr (Or.inr hq))))))
  clear HR hq
  go_enter Tryz.func23,Tryz.ntmps23
  go_wp2_with fail
  refine(uh HCN).mono ?_
  rintro e wn ⟨rfl,hbn⟩
  have hxn:=uh qp _ _ (uh HX0) hbn
  have Ld:=hide hxn
  obtain⟨q0,q1,q2,q3,q4,q5,q6,q7⟩:=uh yg _ hxn
  have Rk:=hide (uh mg _ hxn)
  clear hbn hxn
  go_wp2
  go_ret
  exact⟨jf (uh HF).symm,uh Rk⟩
 have f4:decide (30000<(k.body.length:Int))=false:=decide_eq_false (by omega)
 have E4:=hide hq
 have HR1:=hide (Nu (uh HR) (by rw[decide_eq_true (uh E1),decide_eq_true (uh E2),decide_eq_true (uh E3),decide_eq_true hq];rfl))
 clear HR hq
 go_enter Tryz.func23,Tryz.ntmps23
 go_wp2_with fail
 refine(uh HCN).mono ?_
 rintro e wn ⟨rfl,hbn⟩
 have hxn:=uh qp _ _ (uh HX0) hbn
 have Ld:=hide hxn
 obtain⟨q0,q1,q2,q3,q4,q5,q6,q7⟩:=uh yg _ hxn
 have Rk:=hide (uh mg _ hxn)
 clear hbn hxn
 go_wp2
 go_loopg [6] at' (fun g iv wr=>∃(i:Nat),i<=at'∧g=at'-i∧iv=.int .i64 i∧(∀j,j<i->(match ks[j]? with|some y=>y.name.toList == k.name.toList|none=>false)=false)∧BX wr)
 case atStart=>exact⟨0,Nat.zero_le _,by omega,rfl,fun j hj=>absurd hj (Nat.not_lt_zero _),uh Ld⟩
 case round =>
  obtain⟨i,hi,hg,rfl,hno,hbx⟩:=hrel
  rename World=>wr
  have HG:=hide hg
  have uw:=hide hno
  have Fa:=hide hbx
  obtain⟨z0,z1,z2,z3,z4,z5,z6,z7⟩:=uh yg _ hbx
  have HQn:Hid (∀n,BX (wr.drewN n)):=fun n=>uh qp _ _ (uh Fa) ⟨rfl,rfl,rfl,Nat.le_refl _,fun _ _=>rfl⟩
  clear hg hno
  by_cases hlt:i<at'
  ·have hlk:i<ks.length:=by omega
   obtain⟨jc,x0⟩:=uh V4 i hlk
   rw[←(uh mg _ hbx).cell (p:=⟨bm,_,none⟩) jc] at x0
   have HN:Hid ((ks[i].name.toList == k.name.toList)=true->R=false):=fun h=>Jl (uh HR1) (by rw[List.all_eq_false];exact⟨i,List.mem_range.2 hlt,by rw[List.getElem?_eq_getElem hlk];simp only[h];simp⟩)
   have HY:Hid ((ks[i].name.toList == k.name.toList)=false->∀j,j<i+1->(match ks[j]? with|some y=>y.name.toList == k.name.toList|none=>false)=false):=fun h j hji=>by
    by_cases e:j=i
    ·subst e;rw[List.getElem?_eq_getElem hlk];exact h
    ·exact uh uw j (by omega)
   have hlt':(i:Int)<(at':Int):=by omega
   have a6g:(i:Int)<(ks.length:Int):=by omega
   generalize ks[i].name=yn at *
   clear hlk hbx
   cases hq:(yn.toList == k.name.toList)
   ·have Dp:=hide (uh HY hq)
    clear HN HY
    go_wp2_with fail
    go_quiet ((fail))
    go_wp2
    go_roundg (at'-(i+1))
    case measure=>have:=uh HG;omega
    case rel=>exact⟨i+1,by omega,rfl,by go_num,uh Dp,uh HQn _⟩
   ·have HF:=hide (uh HN hq)
    clear HN HY
    go_wp2_with fail
    go_quiet ((fail))
    go_wp2
    go_ret
    exact⟨jf (uh HF).symm,uh mg _ (uh HQn _)⟩
  ·have hn':decide ((i:Int)<(at':Int))=false:=decide_eq_false (by omega)
   have HR2:=hide (Nu (uh HR1) (by rw[List.all_eq_true];exact fun j hj=>by rw[uh uw j (by have:=List.mem_range.1 hj;omega)];rfl))
   have HV0:=hide (G9 k _ _ _ (.slice b4 k.aj.length c4) (.slice b5 k.insts.length c5) (.slice b6 k.body.length c6) wr ((uh Vf).stays (uh mg _ hbx)).ins ((uh Vf).stays (uh mg _ hbx)).outs ((uh Vf).stays (uh mg _ hbx)).ay (uh Vf).sum)
   clear HR1 uw HG hbx HQn
   go_wp2_with fail
   refine(uh HV0).mono ?_
   rintro e w5 ⟨vv,rfl,X6,hb5⟩
   have hx5:=uh qp _ _ (uh Fa) hb5
   obtain⟨va,vc,rfl⟩:=X6.shape
   have lv:=X6.uy
   obtain⟨BV,hBV⟩:∃BV:World->Prop,∀w',BV w'↔Below w5.heap.size w5 w':=⟨_,fun _=>Iff.rfl⟩
   have HV1:Hid (∀w',BV w'->BX w'):=fun w' h=>uh qp _ _ hx5 ((hBV _).1 h)
   have HV2:Hid (∀w1 w2,BV w1->Below w1.heap.size w1 w2->BV w2):=fun w1 w2 h h2=>(hBV _).2 (((hBV _).1 h).trans (h2.mono ((hBV _).1 h).size))
   have HVP:=hide (fun x w' (h:BV w')=>Zq (varsOf k) _ x w' (X6.stays lu ((hBV _).1 h)))
   have HVX:Hid (∀i (hi:i<(varsOf k).length),∃b o,va=some ⟨b,o,none⟩∧Len (varsOf k)[i].size∧∀w',BV w'->w'.cell? ⟨b,o+i,none⟩=some (.string (varsOf k)[i])):=fun i hi=>by
    obtain⟨_,_,yx,_,_,Em⟩:=X6
    simp only[Value.slice.injEq] at yx
    obtain⟨rfl,_,rfl⟩:=yx
    obtain⟨b,o,cs,rfl,_,hb,_,hc,⟨rfl,hlen⟩⟩:=Em i hi
    refine⟨b,o,rfl,hlen,fun w' h'=>?_⟩
    rw[((hBV _).1 h').cell (p:=⟨b,_,none⟩) hb]
    have h0:=hc 0 (by simp)
    rw[Nat.mul_one,Nat.add_zero] at h0
    exact h0
   have HV5:Hid (BV w5):=(hBV _).2 (Below.refl _ _)
   have HW5:=hide (uh mg _ hx5)
   clear hb5 hx5 X6 hBV HV0
   generalize varsOf k=vars at *
   by_cases hvl:vars.length<=1000
   case neg =>
    have d9:decide (1000<(vars.length:Int))=true:=decide_eq_true (by omega)
    have HF:=hide (Jl (uh HR2) (decide_eq_false hvl))
    clear HR2 hvl
    go_wp2
    go_ret
    exact⟨jf (uh HF).symm,uh HW5⟩
   have d9:decide (1000<(vars.length:Int))=false:=decide_eq_false (by omega)
   have HR3:=hide (Nu (uh HR2) (decide_eq_true hvl))
   clear HR2 hvl z0 z1 z2 z3 z4 z5 z6 z7
   go_wp2
   go_loopg [77] vars.length (fun g iv wr=>∃(i:Nat),i<=vars.length∧g=vars.length-i∧iv=.int .i64 i∧(∀j,j<i->Jk vars j=false)∧BV wr)
   case atStart=>exact⟨0,Nat.zero_le _,by omega,rfl,fun j hj=>absurd hj (Nat.not_lt_zero _),uh HV5⟩
   case round =>
    obtain⟨i,hi,hg,rfl,hno,hbx⟩:=hrel
    rename World=>wq
    have HG:=hide hg
    have uw:=hide hno
    have Du:=hide hbx
    obtain⟨z0,z1,z2,z3,z4,z5,z6,z7⟩:=uh yg _ (uh HV1 _ hbx)
    clear hg hno hbx
    by_cases hlt:i<vars.length
    ·obtain⟨b,o,rfl,hlen,hcx⟩:=uh HVX i hlt
     have x0:=hcx _ (uh Du)
     have Wv:=hide (aqg vars i hlt)
     have HN:Hid (Jk vars i=true->R=false):=fun h=>Jl (uh HR3) (adl i hlt h)
     have HY:Hid (Jk vars i=false->∀j,j<i+1->Jk vars j=false):=fun h j hji=>by
      by_cases e:j=i
      ·subst e;exact h
      ·exact uh uw j (by omega)
     have qg:=hide (Xx vars[i] wq hlen)
     have HC2:=hide (fun w' hb=>uh HVP vars[i] w' hb)
     have hlt':(i:Int)<(vars.length:Int):=by omega
     have hpb:=O6 vars vars[i]
     clear hcx hlen
     generalize iy vars vars[i]=pl at *
     generalize Jk vars i=ob at *
     generalize nameB vars[i]=nb at *
     generalize vars[i]=x at *
     cases nb
     ·have HF:=hide (uh HN ((uh Wv).trans rfl))
      clear HN HY Wv HC2
      go_wp2_with fail
      refine(uh qg).mono ?_
      rintro e w6 ⟨rfl,hb6⟩
      have HB:=hide (uh mg _ (uh HV1 _ (uh HV2 _ _ (uh Du) hb6)))
      clear hb6
      go_wp2
      go_ret
      exact⟨jf (uh HF).symm,uh HB⟩
     by_cases hp:pl<(i:Int)
     ·have f9:decide (pl<(i:Int))=true:=decide_eq_true hp
      have HF:=hide (uh HN ((uh Wv).trans (by rw[f9];rfl)))
      clear HN HY Wv
      go_wp2_with fail
      refine(uh qg).mono ?_
      rintro e w6 ⟨rfl,hb6⟩
      have hx6:=uh HV2 _ _ (uh Du) hb6
      have Io:=hide (uh HC2 _ hx6)
      have HB:=hide (uh mg _ (uh HV1 _ hx6))
      clear hb6 hx6
      go_wp2_with fail
      refine(uh Io).mono ?_
      rintro e w7 ⟨rfl,h9⟩
      obtain rfl:=h9.symm
      clear h9
      go_wp2
      go_ret
      exact⟨jf (uh HF).symm,uh HB⟩
     ·have f9:decide (pl<(i:Int))=false:=decide_eq_false hp
      have Dp:=hide (uh HY ((uh Wv).trans (by rw[f9];rfl)))
      clear HN HY Wv
      go_wp2_with fail
      refine(uh qg).mono ?_
      rintro e w6 ⟨rfl,hb6⟩
      have hx6:=uh HV2 _ _ (uh Du) hb6
      have Io:=hide (uh HC2 _ hx6)
      have HB:=hide hx6
      clear hb6 hx6
      go_wp2_with fail
      refine(uh Io).mono ?_
      rintro e w7 ⟨rfl,h9⟩
      obtain rfl:=h9.symm
      clear h9
      go_wp2
      go_roundg (vars.length-(i+1))
      case measure=>have:=uh HG;omega
      case rel=>exact⟨i+1,by omega,rfl,by go_num,uh Dp,uh HB⟩
    ·have hn9:decide ((i:Int)<(vars.length:Int))=false:=decide_eq_false (by omega)
     have HR4:=hide (Nu (uh HR3) (by rw[List.all_eq_true];exact fun j hj=>by rw[uh uw j (by have:=List.mem_range.1 hj;omega)];rfl))
     have Bj:=hide (uh HV1 _ (uh Du))
     clear HR3 uw HG HVP HVX HV1 HV2 HV5
     have hxA:BX (wq.alloc (.cells #[] 79)).drew:=uh qp _ _ (uh Bj) ((Below.refl _ _).alloc (Nat.le_refl _) _).drew
     have HXA:=hide hxA
     have hz9:=uh Ky _ (uh Bj)
     have HO1:Hid (dw yh (wq.alloc (.cells #[] 79)).drew (w.heap.size+2) (.slice (some ⟨wq.heap.size,0,none⟩) 0 0) []):=(dw.start wq (w.heap.size+2) hz9).below (Below.refl _ _).drew
     have Wp:=hide (fun w' (h:BX w')=>((uh Vf).stays (uh mg _ h)).ins)
     have HOU:=hide (fun w' (h:BX w')=>((uh Vf).stays (uh mg _ h)).outs)
     have hsm:=(uh Vf).sum
     have hzA:w.heap.size+2<=(wq.alloc (.cells #[] 79)).drew.heap.size:=uh Ky _ hxA
     clear hxA
     go_wp2_with fail
     go_region_held3 (fun w'=>w'.cell? ⟨w.heap.size+1,1,none⟩=some (.slice b1 k.ins.length c1)∧w'.cell? ⟨w.heap.size+1,2,none⟩=some (.slice b2 k.outs.length c2)) (go_keep) (first|(refine Xb yh alz _ rfl _ _ rfl (w.heap.size+2) wq.heap.size 0 [] rfl (uh HO1) _ rfl k.ins (uh Wp _ (uh HXA)) (by simp[yh];omega) hzA ?_;intro g1 cap1 w7 ho1 hg1;have ajc:=hide (uh HX3 _ _ _ _ (uh HXA) (uh HO1) hg1);rw[List.nil_append,List.length_nil,Nat.zero_add] at ho1;have V9:=hide ho1;obtain⟨_,a1,a2,_⟩:=uh yg _ (uh ajc);clear ho1 hg1 HO1;have hz7:=uh Ky _ (uh ajc);simp only[List.length_nil,Nat.zero_add])|(refine Xb yh alz _ rfl _ _ rfl (w.heap.size+2) g1 cap1 k.ins rfl (uh V9) _ rfl k.outs (uh HOU _ (uh ajc)) (by simp[yh];omega) hz7 ?_;intro g2 cap2 w8 ho2 hg2;have atx:=hide (uh HX3 _ _ _ _ (uh ajc) (uh V9) hg2);have HO8:=hide ho2;obtain⟨_,a3,a4,_⟩:=uh yg _ (uh atx);clear ho2 hg2 V9))
     clear Wp HOU HXA a1 a2 a3 a4 hz7 hzA z0 z1 z2 z3 z4 z5 z6 z7 ajc
     have HSL:=hide ((uh HO8).at (R:=fun _ _ cs (x:gy)=>cs=yh.f x) (fun x _=>rfl) (by rw[List.length_append];simp[yh];omega))
     have Il:Hid ((k.ins++k.outs).length=k.ins.length+k.outs.length):=List.length_append
     obtain⟨BT,hBT⟩:∃BT:World->Prop,∀w',BT w'↔Below w8.heap.size w8 w':=⟨_,fun _=>Iff.rfl⟩
     have HT1:Hid (∀w',BT w'->BX w'):=fun w' h=>uh qp _ _ (uh atx) ((hBT _).1 h)
     have HT2:Hid (∀w1 w2,BT w1->Below w1.heap.size w1 w2->BT w2):=fun w1 w2 h h2=>(hBT _).2 (((hBT _).1 h).trans (h2.mono ((hBT _).1 h).size))
     have HT0:Hid (BT w8):=(hBT _).2 (Below.refl _ _)
     have HTX:Hid (∀i (hi:i<(k.ins++k.outs).length) w',BT w'->w'.cell? ⟨g2,i*2,none⟩=some (.string (k.ins++k.outs)[i].name)∧w'.cell? ⟨g2,i*2+1,none⟩=some (.int .i64 (k.ins++k.outs)[i].type)):=fun i hi w' h'=>by
      obtain⟨_,_,yx,_,_,Em⟩:=uh HSL
      simp only[Value.slice.injEq] at yx
      obtain⟨yx,_⟩:=yx
      obtain⟨b,o,cs,ql,_,hb,_,hc,rfl⟩:=Em i hi
      rw[←yx] at ql
      simp only[Option.some.injEq,Addr.mk.injEq] at ql
      obtain⟨rfl,rfl,_⟩:=ql
      have h0:=hc 0 (by simp[yh])
      have h1:=hc 1 (by simp[yh])
      have e0:0+i*yh.sz+0=i*2:=by show 0+i*2+0=i*2;omega
      have e1:0+i*yh.sz+1=i*2+1:=by show 0+i*2+1=i*2+1;omega
      rw[e0] at h0
      rw[e1] at h1
      exact⟨(((hBT _).1 h').cell (p:=⟨g2,_,none⟩) hb).trans h0,(((hBT _).1 h').cell (p:=⟨g2,_,none⟩) hb).trans h1⟩
     clear HSL HO8 hBT atx Bj Du hz9
     generalize k.ins++k.outs=sl at *
     go_wp2
     go_loopg [101] sl.length (fun g iv wr=>∃(i:Nat),i<=sl.length∧g=sl.length-i∧iv=.int .i64 i∧(∀j (hj:j<sl.length),j<i->decide (1<=sl[j].type∧sl[j].type<=2)=true)∧BT wr)
     case atStart=>exact⟨0,Nat.zero_le _,by omega,rfl,fun j _ hj=>absurd hj (Nat.not_lt_zero _),uh HT0⟩
     case round =>
      obtain⟨i,hi,hg,rfl,hno,hbx⟩:=hrel
      rename World=>wt
      have HG:=hide hg
      have uw:=hide hno
      have vg:=hide hbx
      obtain⟨z0,z1,z2,z3,z4,z5,z6,z7⟩:=uh yg _ (uh HT1 _ hbx)
      clear hg hno hbx
      by_cases hlt:i<sl.length
      ·obtain⟨x0,x1⟩:=uh HTX i hlt _ (uh vg)
       have HN:Hid (¬(1<=sl[i].type∧sl[i].type<=2)->R=false):=fun h=>Jl (uh HR4) (Ul i hlt (decide_eq_false h))
       have HY:Hid (1<=sl[i].type∧sl[i].type<=2->∀j (hj:j<sl.length),j<i+1->decide (1<=sl[j].type∧sl[j].type<=2)=true):=fun h j hj hji=>by
        by_cases e:j=i
        ·subst e;exact decide_eq_true h
        ·exact uh uw j hj (by omega)
       have hl1:(i:Int)<(k.ins.length:Int)+(k.outs.length:Int):=by have:=uh Il;omega
       have hl2:(i:Int)<((k.ins.length+k.outs.length:Nat):Int):=by have:=uh Il;omega
       have hl3:i<k.ins.length+k.outs.length:=by have:=uh Il;omega
       have Ip:=hide (uh HT2 _ _ (uh vg) ((Below.refl _ _).alloc (Nat.le_refl _) (.cells #[.string sl[i].name,.int .i64 sl[i].type] 79)))
       generalize sl[i].type=ty at *
       generalize sl[i].name=sn at *
       by_cases h1:ty<1
       ·have f9:decide (ty<1)=true:=decide_eq_true h1
        have HF:=hide (uh HN (by omega))
        clear HN HY
        go_wp2
        go_ret
        exact⟨jf (uh HF).symm,uh mg _ (uh HT1 _ (uh Ip))⟩
       have f9:decide (ty<1)=false:=decide_eq_false h1
       by_cases h2:2<ty
       ·have f8:decide (2<ty)=true:=decide_eq_true h2
        have HF:=hide (uh HN (by omega))
        clear HN HY
        go_wp2
        go_ret
        exact⟨jf (uh HF).symm,uh mg _ (uh HT1 _ (uh Ip))⟩
       have f8:decide (2<ty)=false:=decide_eq_false h2
       have Dp:=hide (uh HY (by omega))
       clear HN HY
       go_wp2
       go_roundg (sl.length-(i+1))
       case measure=>have:=uh HG;omega
       case rel=>exact⟨i+1,by omega,rfl,by go_num,uh Dp,uh Ip⟩
      ·have hn8:decide ((i:Int)<(k.ins.length:Int)+(k.outs.length:Int))=false:=decide_eq_false (by have:=uh Il;omega)
       have hn7:¬(i<k.ins.length+k.outs.length):=by have:=uh Il;omega
       have Dz:=hide (Nu (uh HR4) (Qa (fun j hj=>uh uw j hj (by omega))))
       have zo:=hide (uh HT1 _ (uh vg))
       clear HR4 uw HG HTX HT1 HT2 HT0 vg
       have HMX:Hid (∀i (hi:i<k.aj.length),∃b o,b4=some ⟨b,o,none⟩∧∀w',BX w'->w'.cell? ⟨b,o+i,none⟩=some (.int .i64 k.aj[i])):=fun i hi=>by
        obtain⟨_,_,yx,_,_,Em⟩:=(uh Vf).aj
        simp only[Value.slice.injEq] at yx
        obtain⟨rfl,_,rfl⟩:=yx
        obtain⟨b,o,cs,rfl,_,hb,_,hc,⟨rfl,_⟩⟩:=Em i hi
        refine⟨b,o,rfl,fun w' h'=>?_⟩
        rw[(uh mg _ h').cell (p:=⟨b,_,none⟩) hb]
        have h0:=hc 0 (by simp)
        rw[Nat.mul_one,Nat.add_zero] at h0
        exact h0
       have Eb:Hid (∀i (hi:i<k.insts.length),∃b o,b5=some ⟨b,o,none⟩∧∀w',BX w'->w'.cell? ⟨b,o+i,none⟩=some (.int .i64 k.insts[i])):=fun i hi=>by
        obtain⟨_,_,yx,_,_,Em⟩:=(uh Vf).insts
        simp only[Value.slice.injEq] at yx
        obtain⟨rfl,_,rfl⟩:=yx
        obtain⟨b,o,cs,rfl,_,hb,_,hc,⟨rfl,_⟩⟩:=Em i hi
        refine⟨b,o,rfl,fun w' h'=>?_⟩
        rw[(uh mg _ h').cell (p:=⟨b,_,none⟩) hb]
        have h0:=hc 0 (by simp)
        rw[Nat.mul_one,Nat.add_zero] at h0
        exact h0
       go_wp2
       go_loopg [117] k.aj.length (fun g iv wr=>∃(i:Nat),i<=k.aj.length∧g=k.aj.length-i∧iv=.int .i64 i∧(∀j (hj:j<k.aj.length),j<i->Si k.aj[j]=true)∧BX wr)
       case atStart=>exact⟨0,Nat.zero_le _,by omega,rfl,fun j _ hj=>absurd hj (Nat.not_lt_zero _),uh zo⟩
       case round =>
        obtain⟨i,hi,hg,rfl,hno,hbx⟩:=hrel
        rename World=>wt
        have HG:=hide hg
        have uw:=hide hno
        have vg:=hide hbx
        clear hg hno hbx z0 z1 z2 z3 z4 z5 z6 z7
        obtain⟨z0,z1,z2,z3,z4,z5,z6,z7⟩:=uh yg _ (uh vg)
        by_cases hlt:i<k.aj.length
        ·obtain⟨b,o,ql,hcx⟩:=uh HMX i hlt
         have x0:=hcx _ (uh vg)
         have HN:Hid (Si k.aj[i]=false->R=false):=fun h=>Jl (uh Dz) (Ul i hlt h)
         have HY:Hid (Si k.aj[i]=true->∀j (hj:j<k.aj.length),j<i+1->Si k.aj[j]=true):=fun h j hj hji=>by
          by_cases e:j=i
          ·subst e;exact h
          ·exact uh uw j hj (by omega)
         have qg:=hide (aqd k.aj[i] wt)
         have HM:Hid (Si k.aj[i]=(k.aj[i] == IntKind.i32.wrap k.aj[i])):=rfl
         have hlt':(i:Int)<(k.aj.length:Int):=by omega
         clear hcx
         generalize Si k.aj[i]=mb at *
         generalize k.aj[i]=mv at *
         generalize IntKind.i32.wrap mv=wv at *
         subst ql
         have Vg:=hide (uh mg _ (uh vg))
         by_cases hq:mv=wv
         ·have f9:(mv != wv)=false:=by simp[hq]
          have Dp:=hide (uh HY ((uh HM).trans (by simp[hq])))
          clear HN HY HM hq
          go_wp2_with fail
          refine(uh qg).mono ?_
          rintro e w9 ⟨rfl,h9⟩
          obtain rfl:=h9.symm
          clear h9
          go_wp2
          go_roundg (k.aj.length-(i+1))
          case measure=>have:=uh HG;omega
          case rel=>exact⟨i+1,by omega,rfl,by go_num,uh Dp,uh vg⟩
         ·have f9:(mv != wv)=true:=by simp[hq]
          have HF:=hide (uh HN ((uh HM).trans (by simp[hq])))
          clear HN HY HM hq
          go_wp2_with fail
          refine(uh qg).mono ?_
          rintro e w9 ⟨rfl,h9⟩
          obtain rfl:=h9.symm
          clear h9
          go_wp2
          go_ret
          exact⟨jf (uh HF).symm,uh Vg⟩
        ·have hn8:decide ((i:Int)<(k.aj.length:Int))=false:=decide_eq_false (by omega)
         have Um:=hide (Nu (uh Dz) (Qa (fun j hj=>uh uw j hj (by omega))))
         clear Dz uw HG HMX zo
         go_wp2
         go_loopg [129] k.insts.length (fun g iv wr=>∃(i:Nat),i<=k.insts.length∧g=k.insts.length-i∧iv=.int .i64 i∧(∀j (hj:j<k.insts.length),j<i->decide (0<=k.insts[j]∧k.insts[j]<(at':Int))=true)∧wr=wt)
         case atStart=>exact⟨0,Nat.zero_le _,by omega,rfl,fun j _ hj=>absurd hj (Nat.not_lt_zero _),rfl⟩
         case round =>
          obtain⟨i,hi,hg,rfl,hno,hw⟩:=hrel
          obtain rfl:=hw.symm
          clear hw
          have HG:=hide hg
          have uw:=hide hno
          clear hg hno
          have Vg:=hide (uh mg _ (uh vg))
          by_cases hlt:i<k.insts.length
          ·obtain⟨b,o,ql,hcx⟩:=uh Eb i hlt
           have x0:=hcx _ (uh vg)
           have HN:Hid (¬(0<=k.insts[i]∧k.insts[i]<(at':Int))->R=false):=fun h=>Jl (uh Um) (Ul i hlt (decide_eq_false h))
           have HY:Hid (0<=k.insts[i]∧k.insts[i]<(at':Int)->∀j (hj:j<k.insts.length),j<i+1->decide (0<=k.insts[j]∧k.insts[j]<(at':Int))=true):=fun h j hj hji=>by
            by_cases e:j=i
            ·subst e;exact decide_eq_true h
            ·exact uh uw j hj (by omega)
           have hlt':(i:Int)<(k.insts.length:Int):=by omega
           clear hcx
           generalize k.insts[i]=gv at *
           subst ql
           by_cases h1:gv<0
           ·have f9:decide (gv<0)=true:=decide_eq_true h1
            have HF:=hide (uh HN (by omega))
            clear HN HY
            go_wp2
            go_ret
            exact⟨jf (uh HF).symm,uh Vg⟩
           have f9:decide (gv<0)=false:=decide_eq_false h1
           by_cases h2:(at':Int)<=gv
           ·have f8:decide ((at':Int)<=gv)=true:=decide_eq_true h2
            have HF:=hide (uh HN (by omega))
            clear HN HY
            go_wp2
            go_ret
            exact⟨jf (uh HF).symm,uh Vg⟩
           have f8:decide ((at':Int)<=gv)=false:=decide_eq_false h2
           have Dp:=hide (uh HY (by omega))
           clear HN HY
           go_wp2
           go_roundg (k.insts.length-(i+1))
           case measure=>have:=uh HG;omega
           case rel=>exact⟨i+1,by omega,rfl,by go_num,uh Dp,rfl⟩
          ·have hn6:decide ((i:Int)<(k.insts.length:Int))=false:=decide_eq_false (by omega)
           have Ve:=hide (Nu (uh Um) (Qa (fun j hj=>uh uw j hj (by omega))))
           have HIO:Hid (∀j (hj:j<k.insts.length),0<=k.insts[j]∧k.insts[j]<(ks.length:Int)):=fun j hj=>by
            have:=of_decide_eq_true (uh uw j hj (by omega))
            omega
           clear Um uw HG Eb
           have HSX:Hid (∀i (hi:i<k.body.length),∃b o o1 n1 p1 o2 n2 p2 o3 n3 p3,b6=some ⟨b,o,none⟩∧∀w',BX w'->(w'.cell? ⟨b,o+i*6,none⟩=some (.int .i64 k.body[i].kind)∧w'.cell? ⟨b,o+i*6+1,none⟩=some (.string k.body[i].name)∧w'.cell? ⟨b,o+i*6+2,none⟩=some (.int .i64 k.body[i].at_)∧w'.cell? ⟨b,o+i*6+3,none⟩=some (.slice o1 n1 p1)∧w'.cell? ⟨b,o+i*6+4,none⟩=some (.slice o2 n2 p2)∧w'.cell? ⟨b,o+i*6+5,none⟩=some (.slice o3 n3 p3))∧bf 1 16 uz 0 w' (.slice o1 n1 p1) k.body[i].outs∧bf 3 32 tu 0 w' (.slice o2 n2 p2) k.body[i].code∧bf 1 24 vw 0 w' (.slice o3 n3 p3) k.body[i].args):=fun i hi=>by
            obtain⟨_,_,yx,_,_,Em⟩:=(uh Vf).body
            simp only[Value.slice.injEq] at yx
            obtain⟨rfl,_,rfl⟩:=yx
            obtain⟨b,o,cs,rfl,_,hb,_,hc,⟨u1,u2,u3,rfl,_,_,_,s1,s2,s3⟩⟩:=Em i hi
            obtain⟨o1,p1,rfl⟩:=s1.shape
            obtain⟨o2,p2,rfl⟩:=s2.shape
            obtain⟨o3,p3,rfl⟩:=s3.shape
            refine⟨b,o,o1,k.body[i].outs.length,p1,o2,k.body[i].code.length,p2,o3,k.body[i].args.length,p3,rfl,fun w' h'=>?_⟩
            have hB:=uh mg _ h'
            have hc':∀t (ht:t<6),w'.cell? ⟨b,o+i*6+t,none⟩=some (([.int .i64 k.body[i].kind,.string k.body[i].name,.int .i64 k.body[i].at_,.slice o1 k.body[i].outs.length p1,.slice o2 k.body[i].code.length p2,.slice o3 k.body[i].args.length p3]:List Value)[t]):=fun t ht=>by
             rw[hB.cell (p:=⟨b,_,none⟩) hb]
             exact hc t ht
            exact⟨⟨hc' 0 (by omega),hc' 1 (by omega),hc' 2 (by omega),hc' 3 (by omega),hc' 4 (by omega),hc' 5 (by omega)⟩,s1.stays lu hB,s2.stays og hB,s3.stays xq hB⟩
           go_wp2
           go_loopg [144] k.body.length (fun g iv wr=>∃(i:Nat),i<=k.body.length∧g=k.body.length-i∧iv=.int .i64 i∧(∀j (hj:j<k.body.length),j<i->ny ks k k.body[j]=true)∧BX wr)
           case atStart=>exact⟨0,Nat.zero_le _,by omega,rfl,fun j _ hj=>absurd hj (Nat.not_lt_zero _),uh vg⟩
           case round =>
            obtain⟨i,hi,hg,rfl,hno,hbx⟩:=hrel
            rename World=>wu
            have HG:=hide hg
            have uw:=hide hno
            have Hg:=hide hbx
            clear hg hno hbx z0 z1 z2 z3 z4 z5 z6 z7
            obtain⟨z0,z1,z2,z3,z4,z5,z6,z7⟩:=uh yg _ (uh Hg)
            by_cases hlt:i<k.body.length
            ·obtain⟨b,o,o1,n1,p1,o2,n2,p2,o3,n3,p3,ql,hcx⟩:=uh HSX i hlt
             obtain⟨⟨x0,x1,x2,x3,x4,x5⟩,_⟩:=hcx _ (uh Hg)
             have HN:Hid (ny ks k k.body[i]=false->R=false):=fun h=>Jl (uh Ve) (Ul i hlt h)
             have HY:Hid (ny ks k k.body[i]=true->∀j (hj:j<k.body.length),j<i+1->ny ks k k.body[j]=true):=fun h j hj hji=>by
              by_cases e:j=i
              ·subst e;exact h
              ·exact uh uw j hj (by omega)
             have Rj:=uh qp _ _ (uh Hg) ((Below.refl _ wu).alloc (Nat.le_refl _) (.cells #[.int .i64 k.body[i].kind,.string k.body[i].name,.int .i64 k.body[i].at_,.slice o1 n1 p1,.slice o2 n2 p2,.slice o3 n3 p3] 60))
             obtain⟨_,s1,s2,s3⟩:=hcx _ Rj
             have qg:=hide (anz ks k k.body[i] _ _ _ _ _ _ _ _ _ _ _ ((uh Xz).stays jm (uh mg _ Rj)) ((uh Vf).stays (uh mg _ Rj)) s1 s2 s3 (uh HIO))
             have Ip:=hide Rj
             have hlt':(i:Int)<(k.body.length:Int):=by omega
             clear hcx s1 s2 s3 Rj
             generalize ny ks k k.body[i]=sb at *
             generalize k.body[i].kind=kd at *
             generalize k.body[i].name=sn at *
             generalize k.body[i].at_=sa at *
             subst ql
             obtain⟨k0,k1,k2,k3,k4,k5,k6,k7⟩:=uh yg _ (uh Ip)
             cases sb
             ·have HF:=hide (uh HN rfl)
              clear HN HY
              go_wp2_with fail
              refine(uh qg).mono ?_
              rintro e w9 ⟨rfl,jc⟩
              have Vg:=hide (uh mg _ (uh qp _ _ (uh Ip) jc))
              clear jc
              go_wp2
              go_ret
              exact⟨jf (uh HF).symm,uh Vg⟩
             ·have Dp:=hide (uh HY rfl)
              clear HN HY
              go_wp2_with fail
              refine(uh qg).mono ?_
              rintro e w9 ⟨rfl,jc⟩
              have Vg:=hide (uh qp _ _ (uh Ip) jc)
              clear jc
              go_wp2
              go_roundg (k.body.length-(i+1))
              case measure=>have:=uh HG;omega
              case rel=>exact⟨i+1,by omega,rfl,by go_num,uh Dp,uh Vg⟩
            ·have Eh:decide ((i:Int)<(k.body.length:Int))=false:=decide_eq_false (by omega)
             have HR8:=hide (Nu (uh Ve) (Qa (fun j hj=>uh uw j hj (by omega))))
             have qg:=hide (aky (k.body.length+1) k.body _ 0 wu ((uh Vf).stays (uh mg _ (uh Hg))).body (Nat.lt_succ_self _) (Int.le_refl _) (by omega))
             have HW9:=hide (uh mg _ (uh Hg))
             clear Ve uw HG HIO
             generalize hnf:zi (k.body.length+1) (dn k.body) 0=nf at *
             clear hnf
             cases nf
             ·have HF:=hide (Jl (uh HR8) rfl)
              clear HR8
              go_wp2_with fail
              refine(uh qg).mono ?_
              rintro e w9 ⟨rfl,h9⟩
              obtain rfl:=h9.symm
              clear h9
              go_wp2
              go_ret
              exact⟨jf (uh HF).symm,uh HW9⟩
             have HR9:=hide (Nu (uh HR8) rfl)
             clear HR8
             go_wp2_with fail
             refine(uh qg).mono ?_
             rintro e w9 ⟨rfl,h9⟩
             obtain rfl:=h9.symm
             clear h9 qg
             go_wp2
             go_loopg [161] k.body.length (fun g iv wr=>∃(i:Nat),i<=k.body.length∧g=k.body.length-i∧iv=.int .i64 i∧(∀j,j<i->Jz k.body j=false)∧BX wr)
             case atStart=>exact⟨0,Nat.zero_le _,by omega,rfl,fun j hj=>absurd hj (Nat.not_lt_zero _),uh Hg⟩
             case round =>
              obtain⟨i,hi,hg,rfl,hno,hbx⟩:=hrel
              rename World=>wv
              have HG:=hide hg
              have uw:=hide hno
              have HBV:=hide hbx
              clear hg hno hbx z0 z1 z2 z3 z4 z5 z6 z7
              obtain⟨z0,z1,z2,z3,z4,z5,z6,z7⟩:=uh yg _ (uh HBV)
              by_cases hlt:i<k.body.length
              case neg =>
               have hn4:decide ((i:Int)<(k.body.length:Int))=false:=decide_eq_false (by omega)
               have HF:Hid (R=true):=(uh HR9).trans (agt (fun j hj=>uh uw j (by omega)))
               have Vg:=hide (uh mg _ (uh HBV))
               go_wp2
               go_ret
               exact⟨jf (uh HF).symm,uh Vg⟩
              obtain⟨b,o,o1,n1,p1,o2,n2,p2,o3,n3,p3,ql,hcx⟩:=uh HSX i hlt
              obtain⟨⟨x0,x1,x2,x3,x4,x5⟩,_⟩:=hcx _ (uh HBV)
              have HN:Hid (Jz k.body i=true->R=false):=fun h=>(uh HR9).trans (adl i hlt h)
              have HY:Hid (Jz k.body i=false->∀j,j<i+1->Jz k.body j=false):=fun h j hji=>by
               by_cases e:j=i
               ·subst e;exact h
               ·exact uh uw j (by omega)
              have HIB:=hide (att k.body i hlt)
              have HPE:=hide (atu (dn k.body) i)
              have hkl:(dn k.body).length=k.body.length:=by unfold dn;simp
              rw[hkl] at HPE
              clear hkl
              have hlt':(i:Int)<(k.body.length:Int):=by omega
              clear hcx
              generalize k.body[i].kind=kd at *
              generalize k.body[i].name=sn at *
              generalize k.body[i].at_=sa at *
              have Rj:=uh qp _ _ (uh HBV) ((Below.refl _ wv).alloc (Nat.le_refl _) (.cells #[.int .i64 kd,.string sn,.int .i64 sa,.slice o1 n1 p1,.slice o2 n2 p2,.slice o3 n3 p3] 60))
              have qg:=hide (Qu k.body _ i _ ((uh Vf).stays (uh mg _ Rj)).body hi)
              have Ip:=hide Rj
              have hBS:=hide (jl wv #[.int .i64 kd,.string sn,.int .i64 sa,.slice o1 n1 p1,.slice o2 n2 p2,.slice o3 n3 p3] 60)
              clear Rj
              subst ql
              by_cases h4:kd=4
              case neg =>
               have y4:(kd == 4)=false:=by simp[h4]
               have Dp:=hide (uh HY ((uh HIB).trans (by rw[y4,Bool.false_and])))
               clear HN HY HIB qg h4
               go_wp2
               go_roundg (k.body.length-(i+1))
               case measure=>have:=uh HG;omega
               case rel=>exact⟨i+1,by omega,rfl,by go_num,uh Dp,uh Ip⟩
              have y4:(kd == 4)=true:=by simp[h4]
              rw[y4,Bool.true_and] at HIB
              obtain⟨BS,adn⟩:∃BS:World->Prop,∀w',BS w'↔Below (wv.alloc (.cells #[.int .i64 kd,.string sn,.int .i64 sa,.slice o1 n1 p1,.slice o2 n2 p2,.slice o3 n3 p3] 60)).heap.size (wv.alloc (.cells #[.int .i64 kd,.string sn,.int .i64 sa,.slice o1 n1 p1,.slice o2 n2 p2,.slice o3 n3 p3] 60)) w':=⟨_,fun _=>Iff.rfl⟩
              have Bd:Hid (∀w',BS w'->BX w'):=fun w' h=>uh qp _ _ (uh Ip) ((adn _).1 h)
              have HS2:Hid (∀w1 w2,BS w1->Below w1.heap.size w1 w2->BS w2):=fun w1 w2 h h2=>(adn _).2 (((adn _).1 h).trans (h2.mono ((adn _).1 h).size))
              have Ef:Hid (∀w',BS w'->w'.cell? ⟨wv.heap.size,1,none⟩=some (.string sn)):=fun w' h=>((uh hBS).below ((adn _).1 h) (uh hBS).lt).cell (i:=1) (v:=.string sn) rfl
              have HS0:Hid (BS (wv.alloc (.cells #[.int .i64 kd,.string sn,.int .i64 sa,.slice o1 n1 p1,.slice o2 n2 p2,.slice o3 n3 p3] 60))):=(adn _).2 (Below.refl _ _)
              obtain⟨k0,k1,k2,k3,k4,k5,k6,k7⟩:=uh yg _ (uh Ip)
              clear h4 adn hBS
              generalize je (dn k.body) i=pp at *
              obtain⟨po,pe⟩:=pp
              simp only at HIB HPE qg
              have hpe:=uh HPE
              go_wp2_with fail
              refine(uh qg).mono ?_
              rintro e w9 ⟨rfl,h9⟩
              obtain rfl:=h9.symm
              clear h9 qg
              go_wp2
              go_loopg [22] (pe.toNat-i) (fun g jv wr=>∃(j:Nat),i<=j∧j<=k.body.length∧g=pe.toNat-j∧jv=.int .i64 j∧(∀q,i<=q->q<j->(match k.body[q]? with|some t=>Oc t sn|none=>false)=false)∧BS wr)
              case atStart=>exact⟨i,Nat.le_refl _,hi,rfl,rfl,fun q h1 h2=>absurd h2 (by omega),uh HS0⟩
              case round =>
               obtain⟨j,hij,hjb,hg,rfl,hno,hbs⟩:=hrel
               rename World=>wj
               have HGJ:=hide hg
               have HNJ:=hide hno
               have HBJ:=hide hbs
               clear hg hno hbs k0 k1 k2 k3 k4 k5 k6 k7 z0 z1 z2 z3 z4 z5 z6 z7 x0 x1 x2 x3 x4 x5
               obtain⟨z0,z1,z2,z3,z4,z5,z6,z7⟩:=uh yg _ (uh Bd _ (uh HBJ))
               have y1:=uh Ef _ (uh HBJ)
               by_cases hjp:(j:Int)<pe
               case neg =>
                have f9:decide ((j:Int)<pe)=false:=decide_eq_false hjp
                have Dp:=hide (uh HY ((uh HIB).trans (azv (fun q hq=>by
                 by_cases h1:i<=q
                 ·rw[decide_eq_true h1,Bool.true_and];exact uh HNJ q h1 (by omega)
                 ·rw[decide_eq_false h1,Bool.false_and]))))
                have Vg:=hide (uh Bd _ (uh HBJ))
                clear HN HY HIB
                go_wp2
                go_roundg (k.body.length-(i+1))
                case measure=>have:=uh HG;omega
                case rel=>exact⟨i+1,by omega,rfl,by go_num,uh Dp,uh Vg⟩
               have f9:decide ((j:Int)<pe)=true:=decide_eq_true hjp
               have hjl:j<k.body.length:=by omega
               obtain⟨b',o',t1,m1,r1,t2,m2,r2,t3,m3,r3,azw,hcx⟩:=uh HSX j hjl
               simp only[Option.some.injEq,Addr.mk.injEq] at azw
               obtain⟨rfl,rfl,_⟩:=azw
               obtain⟨⟨x0,x1,x2,x3,x4,x5⟩,_⟩:=hcx _ (uh Bd _ (uh HBJ))
               have aty:Hid (Oc k.body[j] sn=true->R=false):=fun h=>uh HN ((uh HIB).trans (aw6 j (by omega) (by rw[decide_eq_true hij,Bool.true_and,List.getElem?_eq_getElem hjl];exact h)))
               have atz:Hid (Oc k.body[j] sn=false->∀q,i<=q->q<j+1->(match k.body[q]? with|some t=>Oc t sn|none=>false)=false):=fun h q h1 h2=>by
                by_cases e:q=j
                ·subst e;rw[List.getElem?_eq_getElem hjl];exact h
                ·exact uh HNJ q h1 (by omega)
               have hdr:=uh HS2 _ _ (uh HBJ) (Below.refl _ wj).drew
               have azx:=hide (akz k.body[j] sn _ _ _ wj.drew (hcx _ (uh Bd _ hdr)).2.1 ⟨t2,m2,r2,rfl⟩ ⟨t3,m3,r3,rfl⟩)
               have Rl:=hide (fun w' h=>(hcx w' (uh Bd w' h)).1)
               have a6h:(j:Int)<(k.body.length:Int):=by omega
               clear hcx
               generalize Oc k.body[j] sn=wb at *
               generalize k.body[j].kind=jk at *
               generalize k.body[j].name=jn at *
               generalize k.body[j].at_=ja at *
               have HCW:Hid (Calls Tryz.prog 52 #[.agg #[.int .i64 jk,.string jn,.int .i64 ja,.slice t1 m1 r1,.slice t2 m2 r2,.slice t3 m3 r3],.string sn] wj.drew fun e w9=>e=.returned (.bool wb)∧BS w9∧w9.cell? ⟨w.heap.size+1,6,none⟩=some (.slice (some ⟨b,o,none⟩) k.body.length c6)∧w9.cell? ⟨b,o+j*6,none⟩=some (.int .i64 jk)∧w9.cell? ⟨b,o+j*6+1,none⟩=some (.string jn)∧w9.cell? ⟨b,o+j*6+2,none⟩=some (.int .i64 ja)∧w9.cell? ⟨b,o+j*6+3,none⟩=some (.slice t1 m1 r1)∧w9.cell? ⟨b,o+j*6+4,none⟩=some (.slice t2 m2 r2)∧w9.cell? ⟨b,o+j*6+5,none⟩=some (.slice t3 m3 r3)∧w9.cell? ⟨wv.heap.size,1,none⟩=some (.string sn)):=by
                refine(uh azx).mono ?_
                rintro e w9 ⟨rfl,jc⟩
                have h9:=uh HS2 _ _ hdr jc
                obtain⟨c0,c1',c2',c3',c4',c5'⟩:=uh Rl w9 h9
                obtain⟨_,_,_,_,_,_,_,q7⟩:=uh yg _ (uh Bd _ h9)
                have hs9:=uh Ef _ h9
                exact⟨rfl,h9,q7,c0,c1',c2',c3',c4',c5',hs9⟩
               clear azx Rl hdr
               generalize wv.heap.size=vb at *
               cases wb
               ·have Dp:=hide (uh atz rfl)
                clear aty atz HN HY
                go_wp2_with fail
                go_region_held3 (fun w'=>w'.cell? ⟨w.heap.size+1,6,none⟩=some (.slice (some ⟨b,o,none⟩) k.body.length c6)∧w'.cell? ⟨b,o+j*6,none⟩=some (.int .i64 jk)∧w'.cell? ⟨b,o+j*6+1,none⟩=some (.string jn)∧w'.cell? ⟨b,o+j*6+2,none⟩=some (.int .i64 ja)∧w'.cell? ⟨b,o+j*6+3,none⟩=some (.slice t1 m1 r1)∧w'.cell? ⟨b,o+j*6+4,none⟩=some (.slice t2 m2 r2)∧w'.cell? ⟨b,o+j*6+5,none⟩=some (.slice t3 m3 r3)∧w'.cell? ⟨vb,1,none⟩=some (.string sn)) (go_keep) (first|(go_at_call 52;refine(uh HCW).mono ?_;rintro e w9 ⟨rfl,hB9,l0,l1,l2,l3,l4,l5,l6,l7⟩))
                have Vg:=hide hB9
                go_wp2
                go_roundg (pe.toNat-(j+1))
                case measure=>have:=uh HGJ;omega
                case rel=>exact⟨j+1,by omega,by omega,rfl,by go_num,uh Dp,uh Vg⟩
               ·have HF:=hide (uh aty rfl)
                clear aty atz HN HY
                go_wp2_with fail
                go_region_held3 (fun w'=>w'.cell? ⟨w.heap.size+1,6,none⟩=some (.slice (some ⟨b,o,none⟩) k.body.length c6)∧w'.cell? ⟨b,o+j*6,none⟩=some (.int .i64 jk)∧w'.cell? ⟨b,o+j*6+1,none⟩=some (.string jn)∧w'.cell? ⟨b,o+j*6+2,none⟩=some (.int .i64 ja)∧w'.cell? ⟨b,o+j*6+3,none⟩=some (.slice t1 m1 r1)∧w'.cell? ⟨b,o+j*6+4,none⟩=some (.slice t2 m2 r2)∧w'.cell? ⟨b,o+j*6+5,none⟩=some (.slice t3 m3 r3)∧w'.cell? ⟨vb,1,none⟩=some (.string sn)) (go_keep) (first|(go_at_call 52;refine(uh HCW).mono ?_;rintro e w9 ⟨rfl,hB9,l0,l1,l2,l3,l4,l5,l6,l7⟩))
                have Vg:=hide (uh mg _ (uh Bd _ hB9))
                go_wp2
                go_ret
                exact⟨jf (uh HF).symm,uh Vg⟩
end Go.Proofs.YtlcgnbcgmljpaaaGreat
