import Derived.Test.YtfeejeflmcapoaaGreatDoorMQ3
set_option linter.unusedSimpArgs false
set_option linter.unusedVariables false
set_option maxHeartbeats 8000000
set_option maxRecDepth 20000
namespace Go.Proofs.YtfeejeflmcapoaaGreatDoor
open Go.RowKit
theorem Sz {a b c:Bool} (h:c=(a&&b)) (ha:a=false):c=false:=by rw[h,ha];rfl
theorem V8 {a b c:Bool} (h:c=(a&&b)) (ha:a=true):c=b:=by rw[h,ha];rfl
theorem ado {n:Bool} {p q r s:Prop} [Decidable p] [Decidable q] [Decidable r] [Decidable s] (h:n=false\/¬p\/¬q\/¬r\/¬s):(n&&decide p&&decide q&&decide r&&decide s)=false:=by
 rcases h with h|h|h|h|h<;>simp[h]
theorem avm (vars:List dh) (i:Nat) (hi:i<vars.length):Qc vars i=(!nameB vars[i]||decide (je vars vars[i]<(i:Int))):=by
 unfold Qc;rw[jy hi]
theorem ayw (body:List lu) (i:Nat) (hi:i<body.length):Ui body i=(body[i].kind==4&&(List.range (uo (jm body) i).2.toNat).any (fun j=>decide (i<=j)&&(match body[j]? with|some t=>Wn t body[i].name|none=>false))):=by
 unfold Ui;rw[jy hi];rfl
theorem ayx (ks:List Int) (i:Nat):(uo ks i).2<(ks.length:Int) /\ -1<=(uo ks i).2\/(uo ks i).2<0:=by
 by_cases h:0<=(uo ks i).2
 ·left
  have:=avn (ks.drop i) i 0 (-1) h;rw[Cc] at this;unfold uo at *;omega
 ·right;omega
theorem a3u {n:Nat} {p:Nat->Bool} (i:Nat) (hi:i<n) (h:p i=true):(List.range n).any p=true:=by
 rw[List.any_eq_true];exact⟨i,uz.2 hi,h⟩
theorem a6v {n:Nat} {p:Nat->Bool} (h:∀j,j<n->p j=false):(List.range n).any p=false:=by
 rw[List.any_eq_false];intro x hx;rw[h x (uz.1 hx)];simp
theorem ayy (ks:List dw) (i:Nat) (hi:i<ks.length):Gw ks i=((nameB ks[i].name&&decide (1<=ks[i].au.length)&&decide (ks[i].gq.length<=1000)&&decide (ks[i].ay.length<=1000)&&decide (ks[i].body.length<=30000))
  && ((List.range i).all (fun j=>!(match ks[j]? with|some y=>y.name.toList==ks[i].name.toList|none=>false))
  && (decide ((varsOf ks[i]).length<=1000)
  && ((List.range (varsOf ks[i]).length).all (fun j=>!Qc (varsOf ks[i]) j)
  && ((ks[i].ins++ks[i].au).all (fun t=>decide (1<=t.type/\t.type<=2))
  && (ks[i].gq.all Wy
  && (ks[i].ay.all (fun g=>decide (0<=g/\g<(i:Int)))
  && (ks[i].body.all (yg ks ks[i])
  && (Em (ks[i].body.length+1) (jm ks[i].body) 0
  && (List.range ks[i].body.length).all (fun j=>!Ui ks[i].body j)))))))))):=by
 unfold Gw;rw[jy hi];rfl
theorem ank (ks:List dw) (v:Value) (at':Nat) (w:cu) (hm:jc 7 160 C9 0 w v ks) (hat:at'<ks.length) (hsum:∀i (hi:i<ks.length),ks[i].ins.length+ks[i].au.length+ks[i].iw.length<=1048576) :
  Calls Tryz.prog 52 #[.agg #[v],.int .i64 (at':Int)] w (Ans (.bool (Gw ks at')) w):=by
 have HMM:=ak hm;have hlm:=hm.Bh;obtain⟨_,cm,rfl,_,_,hx⟩:=hm;obtain⟨bm,om,cs,rfl,_,hbm,_,hc,⟨v1,v2,v3,v4,v5,v6,rfl,hnl,t1,t2,t3,t4,t5,t6⟩⟩:=hx at' hat;have HCI:Hid (Ot w ks[at'] v1 v2 v3 v4 v5 v6):=⟨t1,t2,t3,t4,t5,t6,hnl,hsum at' hat⟩
 have HNM:Hid (∀j (hj:j<ks.length),bm<w.heap.size/\w.cell? ⟨bm,om+j*7,none⟩=some (.string ks[j].name)):=fun j hj=>by
  obtain⟨b9,o9,cs9,e9,_,yx,_,hc9,⟨_,_,_,_,_,_,rfl,_⟩⟩:=hx j hj;simp only[uw,Addr.mk.injEq] at e9;obtain⟨rfl,rfl,_⟩:=e9;exact⟨yx,hc9 0 (by simp)⟩
 have HB:=ak (ayy ks at' hat);generalize Gw ks at'=R at *;generalize hk:ks[at']=k at *;clear hk hx hsum;obtain⟨b1,c1,rfl⟩:=t1.shape;obtain⟨b2,c2,rfl⟩:=t2.shape;obtain⟨b3,c3,rfl⟩:=t3.shape;obtain⟨b4,c4,rfl⟩:=t4.shape;obtain⟨b5,c5,rfl⟩:=t5.shape;obtain⟨b6,c6,rfl⟩:=t6.shape;have l2:=t2.Bh;have l4:=t4.Bh;have l5:=t5.Bh;have l6:=t6.Bh;have y0:=hc 0 (by simp);have y1:=hc 1 (by simp);have y2:=hc 2 (by simp);have y3:=hc 3 (by simp);have y4:=hc 4 (by simp);have y5:=hc 5 (by simp);have y6:=hc 6 (by simp);simp only[ji,og,ou] at y0 y1 y2 y3 y4 y5 y6;clear t1 t2 t3 t4 t5 t6 hc;have hA1:Below w.heap.size w (w.alloc (.cells #[.slice (some ⟨bm,om,none⟩) ks.length cm] 24)):=(iq _ _).alloc (gu _) _;have hA:Below w.heap.size w ((w.alloc (.cells #[.slice (some ⟨bm,om,none⟩) ks.length cm] 24)).alloc (.cells #[.string k.name,.slice b1 k.ins.length c1,.slice b2 k.au.length c2,.slice b3 k.iw.length c3,.slice b4 k.gq.length c4,.slice b5 k.ay.length c5,.slice b6 k.body.length c6] 50)):=hA1.alloc (by simp) _;have hB1:jd ((w.alloc (.cells #[.slice (some ⟨bm,om,none⟩) ks.length cm] 24)).alloc (.cells #[.string k.name,.slice b1 k.ins.length c1,.slice b2 k.au.length c2,.slice b3 k.iw.length c3,.slice b4 k.gq.length c4,.slice b5 k.ay.length c5,.slice b6 k.body.length c6] 50)) w.heap.size 24 #[.slice (some ⟨bm,om,none⟩) ks.length cm]:=(oh w #[.slice (some ⟨bm,om,none⟩) ks.length cm] 24).below ((iq _ _).alloc (gu _) _) (by simp)
 have hB2:jd ((w.alloc (.cells #[.slice (some ⟨bm,om,none⟩) ks.length cm] 24)).alloc (.cells #[.string k.name,.slice b1 k.ins.length c1,.slice b2 k.au.length c2,.slice b3 k.iw.length c3,.slice b4 k.gq.length c4,.slice b5 k.ay.length c5,.slice b6 k.body.length c6] 50)) (w.heap.size+1) 50 #[.string k.name,.slice b1 k.ins.length c1,.slice b2 k.au.length c2,.slice b3 k.iw.length c3,.slice b4 k.gq.length c4,.slice b5 k.ay.length c5,.slice b6 k.body.length c6]:=by
  have h0:=oh (w.alloc (.cells #[.slice (some ⟨bm,om,none⟩) ks.length cm] 24)) #[.string k.name,.slice b1 k.ins.length c1,.slice b2 k.au.length c2,.slice b3 k.iw.length c3,.slice b4 k.gq.length c4,.slice b5 k.ay.length c5,.slice b6 k.body.length c6] 50;rw[show (w.alloc (.cells #[.slice (some ⟨bm,om,none⟩) ks.length cm] 24)).heap.size=w.heap.size+1 from by simp] at h0;exact h0
 obtain⟨BX,mg⟩:∃BX:cu->Prop,∀w',BX w'↔Below (w.heap.size+2) ((w.alloc (.cells #[.slice (some ⟨bm,om,none⟩) ks.length cm] 24)).alloc (.cells #[.string k.name,.slice b1 k.ins.length c1,.slice b2 k.au.length c2,.slice b3 k.iw.length c3,.slice b4 k.gq.length c4,.slice b5 k.ay.length c5,.slice b6 k.body.length c6] 50)) w':=⟨_,fun _=>Iff.rfl⟩;have Xe:((w.alloc (.cells #[.slice (some ⟨bm,om,none⟩) ks.length cm] 24)).alloc (.cells #[.string k.name,.slice b1 k.ins.length c1,.slice b2 k.au.length c2,.slice b3 k.iw.length c3,.slice b4 k.gq.length c4,.slice b5 k.ay.length c5,.slice b6 k.body.length c6] 50)).heap.size=w.heap.size+2:=by simp
 have Ag:Hid (∀w1,BX w1->Below w.heap.size w w1):=fun w1 h=>hA.trans (((mg w1).1 h).mono (by omega))
 have F8:Hid (∀w1 w2,BX w1->Below w1.heap.size w1 w2->BX w2):=fun w1 w2 h h2=>(mg w2).2 (((mg w1).1 h).trans (h2.mono (by have:=((mg w1).1 h).size;omega)))
 have Jo:Hid (∀w1,BX w1->w1.cell? ⟨w.heap.size,0,none⟩=some (.slice (some ⟨bm,om,none⟩) ks.length cm)/\w1.cell? ⟨w.heap.size+1,0,none⟩=some (.string k.name)/\w1.cell? ⟨w.heap.size+1,1,none⟩=some (.slice b1 k.ins.length c1)/\w1.cell? ⟨w.heap.size+1,2,none⟩=some (.slice b2 k.au.length c2)/\w1.cell? ⟨w.heap.size+1,3,none⟩=some (.slice b3 k.iw.length c3)/\w1.cell? ⟨w.heap.size+1,4,none⟩=some (.slice b4 k.gq.length c4)/\w1.cell? ⟨w.heap.size+1,5,none⟩=some (.slice b5 k.ay.length c5)/\w1.cell? ⟨w.heap.size+1,6,none⟩=some (.slice b6 k.body.length c6)):=fun w1 h=>⟨(hB1.below ((mg w1).1 h) (by omega)).cell (i:=0) (v:=.slice (some ⟨bm,om,none⟩) ks.length cm) rfl,(hB2.below ((mg w1).1 h) (by omega)).cell (i:=0) (v:=.string k.name) rfl,(hB2.below ((mg w1).1 h) (by omega)).cell (i:=1) (v:=.slice b1 k.ins.length c1) rfl,(hB2.below ((mg w1).1 h) (by omega)).cell (i:=2) (v:=.slice b2 k.au.length c2) rfl,(hB2.below ((mg w1).1 h) (by omega)).cell (i:=3) (v:=.slice b3 k.iw.length c3) rfl,(hB2.below ((mg w1).1 h) (by omega)).cell (i:=4) (v:=.slice b4 k.gq.length c4) rfl,(hB2.below ((mg w1).1 h) (by omega)).cell (i:=5) (v:=.slice b5 k.ay.length c5) rfl,(hB2.below ((mg w1).1 h) (by omega)).cell (i:=6) (v:=.slice b6 k.body.length c6) rfl⟩
 have HX5:Hid (∀w1,BX w1->w.heap.size+2<=w1.heap.size):=fun w1 h=>by have:=((mg w1).1 h).size;omega
 have HX0:Hid (BX ((w.alloc (.cells #[.slice (some ⟨bm,om,none⟩) ks.length cm] 24)).alloc (.cells #[.string k.name,.slice b1 k.ins.length c1,.slice b2 k.au.length c2,.slice b3 k.iw.length c3,.slice b4 k.gq.length c4,.slice b5 k.ay.length c5,.slice b6 k.body.length c6] 50))):=(mg _).2 (iq _ _);have HX3:Hid (∀w1 w2 v (xs:List jw),BX w1->jq F5 w1 (w.heap.size+2) v xs->w1.grownBy w2 v.ownBlock->BX w2):=fun w1 w2 v xs h ho hg=>(mg w2).2 (ho.grown ((mg w1).1 h) hg (by have:=((mg w1).1 h).size;omega) (gu _))
 have HCN:=ak (acf k.name ((w.alloc (.cells #[.slice (some ⟨bm,om,none⟩) ks.length cm] 24)).alloc (.cells #[.string k.name,.slice b1 k.ins.length c1,.slice b2 k.au.length c2,.slice b3 k.iw.length c3,.slice b4 k.gq.length c4,.slice b5 k.ay.length c5,.slice b6 k.body.length c6] 50)) hnl);have hat':(at':Int)<(ks.length:Int):=by omega
 have HR:=HB;clear HB hA1 hA hB1 hB2 mg Xe;generalize nameB k.name=nb at *
 cases nb
 ·have HF:=ak (Sz (uh HR) (ado (Or.inl rfl)))
  clear HR;go_enter Tryz.func52,Tryz.ntmps52;go_wp2_with fail;refine(uh HCN).mono ?_;rintro e wn ⟨rfl,hbn⟩;have hxn:=uh F8 _ _ (uh HX0) hbn;have Vf:=ak hxn;obtain⟨q0,q1,q2,q3,q4,q5,q6,q7⟩:=uh Jo _ hxn;have HBB:=ak (uh Ag _ hxn);clear hbn hxn;go_wp2;go_ret;exact⟨qm (uh HF).symm,uh HBB⟩
 by_cases hq:1<=k.au.length
 case neg =>
  have d9:decide ((k.au.length:Int)<1)=true:=jf (by omega);have HF:=ak (Sz (uh HR) (ado (Or.inr (Or.inl hq))));clear HR hq;go_enter Tryz.func52,Tryz.ntmps52;go_wp2_with fail;refine(uh HCN).mono ?_;rintro e wn ⟨rfl,hbn⟩;have hxn:=uh F8 _ _ (uh HX0) hbn;have Vf:=ak hxn;obtain⟨q0,q1,q2,q3,q4,q5,q6,q7⟩:=uh Jo _ hxn;have HBB:=ak (uh Ag _ hxn);clear hbn hxn;go_wp2;go_ret;exact⟨qm (uh HF).symm,uh HBB⟩
 have f1:decide ((k.au.length:Int)<1)=false:=iy (by omega);have E1:=ak hq;clear hq
 by_cases hq:k.gq.length<=1000
 case neg =>
  have d9:decide (1000<(k.gq.length:Int))=true:=jf (by omega);have HF:=ak (Sz (uh HR) (ado (Or.inr (Or.inr (Or.inl hq)))));clear HR hq;go_enter Tryz.func52,Tryz.ntmps52;go_wp2_with fail;refine(uh HCN).mono ?_;rintro e wn ⟨rfl,hbn⟩;have hxn:=uh F8 _ _ (uh HX0) hbn;have Vf:=ak hxn;obtain⟨q0,q1,q2,q3,q4,q5,q6,q7⟩:=uh Jo _ hxn;have HBB:=ak (uh Ag _ hxn);clear hbn hxn;go_wp2;go_ret;exact⟨qm (uh HF).symm,uh HBB⟩
 have f2:decide (1000<(k.gq.length:Int))=false:=iy (by omega);have E2:=ak hq;clear hq
 by_cases hq:k.ay.length<=1000
 case neg =>
  have d9:decide (1000<(k.ay.length:Int))=true:=jf (by omega);have HF:=ak (Sz (uh HR) (ado (Or.inr (Or.inr (Or.inr (Or.inl hq))))));clear HR hq;go_enter Tryz.func52,Tryz.ntmps52;go_wp2_with fail;refine(uh HCN).mono ?_;rintro e wn ⟨rfl,hbn⟩;have hxn:=uh F8 _ _ (uh HX0) hbn;have Vf:=ak hxn;obtain⟨q0,q1,q2,q3,q4,q5,q6,q7⟩:=uh Jo _ hxn;have HBB:=ak (uh Ag _ hxn);clear hbn hxn;go_wp2;go_ret;exact⟨qm (uh HF).symm,uh HBB⟩
 have f3:decide (1000<(k.ay.length:Int))=false:=iy (by omega);have E3:=ak hq;clear hq
 by_cases hq:k.body.length<=30000
 case neg =>
  have d9:decide (30000<(k.body.length:Int))=true:=jf (by omega);have HF:=ak (Sz (uh HR) (ado (Or.inr (Or.inr (Or.inr (Or.inr hq))))));clear HR hq;go_enter Tryz.func52,Tryz.ntmps52;go_wp2_with fail;refine(uh HCN).mono ?_;rintro e wn ⟨rfl,hbn⟩;have hxn:=uh F8 _ _ (uh HX0) hbn;have Vf:=ak hxn;obtain⟨q0,q1,q2,q3,q4,q5,q6,q7⟩:=uh Jo _ hxn;have HBB:=ak (uh Ag _ hxn);clear hbn hxn;go_wp2;go_ret;exact⟨qm (uh HF).symm,uh HBB⟩
 have f4:decide (30000<(k.body.length:Int))=false:=iy (by omega);have E4:=ak hq;have HR1:=ak (V8 (uh HR) (by rw[jf (uh E1),jf (uh E2),jf (uh E3),jf hq];rfl));clear HR hq;go_enter Tryz.func52,Tryz.ntmps52;go_wp2_with fail;refine(uh HCN).mono ?_;rintro e wn ⟨rfl,hbn⟩;have hxn:=uh F8 _ _ (uh HX0) hbn;have Vf:=ak hxn;obtain⟨q0,q1,q2,q3,q4,q5,q6,q7⟩:=uh Jo _ hxn;have HBB:=ak (uh Ag _ hxn);clear hbn hxn;go_wp2
 go_loopg [6] at' (fun g iv wr=>∃(i:Nat),i<=at'/\g=at'-i/\iv=.int .i64 i/\(∀j,j<i->(match ks[j]? with|some y=>y.name.toList==k.name.toList|none=>false)=false)/\BX wr)
 case atStart=>exact⟨0,jg _,by omega,rfl,fun j hj=>absurd hj (yu _),uh Vf⟩
 case round =>
  obtain⟨i,hi,hg,rfl,hno,hbx⟩:=hrel;rename cu=>wr;have HG:=ak hg;have Bo:=ak hno;have D5:=ak hbx;obtain⟨z0,z1,z2,z3,z4,z5,z6,z7⟩:=uh Jo _ hbx;have HQn:Hid (∀n,BX (wr.drewN n)):=fun n=>uh F8 _ _ (uh D5) ⟨rfl,rfl,rfl,gu _,fun _ _=>rfl⟩
  clear hg hno
  by_cases hlt:i<at'
  ·have hlk:i<ks.length:=by omega
   obtain⟨yx,x0⟩:=uh HNM i hlk;rw[←(uh Ag _ hbx).cell (p:=⟨bm,_,none⟩) yx] at x0;have HN:Hid ((ks[i].name.toList==k.name.toList)=true->R=false):=fun h=>Sz (uh HR1) (by rw[List.all_eq_false];exact⟨i,uz.2 hlt,by rw[jy hlk];simp only[h];simp⟩)
   have HY:Hid ((ks[i].name.toList==k.name.toList)=false->∀j,j<i+1->(match ks[j]? with|some y=>y.name.toList==k.name.toList|none=>false)=false):=fun h j hji=>by
    by_cases e:j=i
    ·subst e;rw[jy hlk];exact h
    ·exact uh Bo j (by omega)
   have hlt':(i:Int)<(at':Int):=by omega
   have bes:(i:Int)<(ks.length:Int):=by omega
   generalize ks[i].name=yn at *;clear hlk hbx
   cases hq:(yn.toList==k.name.toList)
   ·have Lr:=ak (uh HY hq)
    clear HN HY;go_wp2_with fail;go_quiet ((fail));go_wp2
    go_roundg (at'-(i+1))
    case measure=>have:=uh HG;omega
    case rel=>exact⟨i+1,by omega,rfl,by go_num,uh Lr,uh HQn _⟩
   ·have HF:=ak (uh HN hq)
    clear HN HY;go_wp2_with fail;go_quiet ((fail));go_wp2;go_ret;exact⟨qm (uh HF).symm,uh Ag _ (uh HQn _)⟩
  ·have hn':decide ((i:Int)<(at':Int))=false:=iy (by omega)
   have HR2:=ak (V8 (uh HR1) (by rw[yc];exact fun j hj=>by rw[uh Bo j (by have:=uz.1 hj;omega)];rfl));have HV0:=ak (Py k _ _ _ (.slice b4 k.gq.length c4) (.slice b5 k.ay.length c5) (.slice b6 k.body.length c6) wr ((uh HCI).stays (uh Ag _ hbx)).ins ((uh HCI).stays (uh Ag _ hbx)).au ((uh HCI).stays (uh Ag _ hbx)).iw (uh HCI).sum);clear HR1 Bo HG hbx HQn;go_wp2_with fail;refine(uh HV0).mono ?_;rintro e w5 ⟨vv,rfl,hVS,hb5⟩;have hx5:=uh F8 _ _ (uh D5) hb5;obtain⟨va,vc,rfl⟩:=hVS.shape;have lv:=hVS.Bh;obtain⟨BV,hBV⟩:∃BV:cu->Prop,∀w',BV w'↔Below w5.heap.size w5 w':=⟨_,fun _=>Iff.rfl⟩;have HV1:Hid (∀w',BV w'->BX w'):=fun w' h=>uh F8 _ _ hx5 ((hBV _).1 h)
   have HV2:Hid (∀w1 w2,BV w1->Below w1.heap.size w1 w2->BV w2):=fun w1 w2 h h2=>(hBV _).2 (((hBV _).1 h).trans (h2.mono ((hBV _).1 h).size))
   have HVP:=ak (fun x w' (h:BV w')=>D6 (varsOf k) _ x w' (hVS.stays zk ((hBV _).1 h)))
   have HVX:Hid (∀i (hi:i<(varsOf k).length),∃b o,va=some ⟨b,o,none⟩/\Len (varsOf k)[i].size/\∀w',BV w'->w'.cell? ⟨b,o+i,none⟩=some (.string (varsOf k)[i])):=fun i hi=>by
    obtain⟨_,_,Ja,_,_,Fh⟩:=hVS;simp only[qw] at Ja;obtain⟨rfl,_,rfl⟩:=Ja;obtain⟨b,o,cs,rfl,_,hb,_,hc,⟨rfl,hlen⟩⟩:=Fh i hi;refine⟨b,o,rfl,hlen,fun w' h'=>?_⟩;rw[((hBV _).1 h').cell (p:=⟨b,_,none⟩) hb];have h0:=hc 0 (by simp);rw[jr,ji] at h0;exact h0
   have HV5:Hid (BV w5):=(hBV _).2 (iq _ _);have HW5:=ak (uh Ag _ hx5);clear hb5 hx5 hVS hBV HV0;generalize varsOf k=vars at *
   by_cases hvl:vars.length<=1000
   case neg =>
    have d9:decide (1000<(vars.length:Int))=true:=jf (by omega);have HF:=ak (Sz (uh HR2) (iy hvl));clear HR2 hvl;go_wp2;go_ret;exact⟨qm (uh HF).symm,uh HW5⟩
   have d9:decide (1000<(vars.length:Int))=false:=iy (by omega);have HR3:=ak (V8 (uh HR2) (jf hvl));clear HR2 hvl z0 z1 z2 z3 z4 z5 z6 z7;go_wp2
   go_loopg [77] vars.length (fun g iv wr=>∃(i:Nat),i<=vars.length/\g=vars.length-i/\iv=.int .i64 i/\(∀j,j<i->Qc vars j=false)/\BV wr)
   case atStart=>exact⟨0,jg _,by omega,rfl,fun j hj=>absurd hj (yu _),uh HV5⟩
   case round =>
    obtain⟨i,hi,hg,rfl,hno,hbx⟩:=hrel;rename cu=>wq;have HG:=ak hg;have Bo:=ak hno;have Qz:=ak hbx;obtain⟨z0,z1,z2,z3,z4,z5,z6,z7⟩:=uh Jo _ (uh HV1 _ hbx);clear hg hno hbx
    by_cases hlt:i<vars.length
    ·obtain⟨b,o,rfl,hlen,hcx⟩:=uh HVX i hlt
     have x0:=hcx _ (uh Qz);have HOB:=ak (avm vars i hlt);have HN:Hid (Qc vars i=true->R=false):=fun h=>Sz (uh HR3) (ahz i hlt h)
     have HY:Hid (Qc vars i=false->∀j,j<i+1->Qc vars j=false):=fun h j hji=>by
      by_cases e:j=i
      ·subst e;exact h
      ·exact uh Bo j (by omega)
     have Ap:=ak (acf vars[i] wq hlen);have HC2:=ak (fun w' hb=>uh HVP vars[i] w' hb);have hlt':(i:Int)<(vars.length:Int):=by omega
     have hpb:=Xw vars vars[i];clear hcx hlen;generalize je vars vars[i]=pl at *;generalize Qc vars i=ob at *;generalize nameB vars[i]=nb at *;generalize vars[i]=x at *
     cases nb
     ·have HF:=ak (uh HN ((uh HOB).trans rfl))
      clear HN HY HOB HC2;go_wp2_with fail;refine(uh Ap).mono ?_;rintro e w6 ⟨rfl,hb6⟩;have HB:=ak (uh Ag _ (uh HV1 _ (uh HV2 _ _ (uh Qz) hb6)));clear hb6;go_wp2;go_ret;exact⟨qm (uh HF).symm,uh HB⟩
     by_cases hp:pl<(i:Int)
     ·have f9:decide (pl<(i:Int))=true:=jf hp
      have HF:=ak (uh HN ((uh HOB).trans (by rw[f9];rfl)));clear HN HY HOB;go_wp2_with fail;refine(uh Ap).mono ?_;rintro e w6 ⟨rfl,hb6⟩;have hx6:=uh HV2 _ _ (uh Qz) hb6;have Vh:=ak (uh HC2 _ hx6);have HB:=ak (uh Ag _ (uh HV1 _ hx6));clear hb6 hx6;go_wp2_with fail;refine(uh Vh).mono ?_;rintro e w7 ⟨rfl,h9⟩;obtain rfl:=h9.symm;clear h9;go_wp2;go_ret;exact⟨qm (uh HF).symm,uh HB⟩
     ·have f9:decide (pl<(i:Int))=false:=iy hp
      have Lr:=ak (uh HY ((uh HOB).trans (by rw[f9];rfl)));clear HN HY HOB;go_wp2_with fail;refine(uh Ap).mono ?_;rintro e w6 ⟨rfl,hb6⟩;have hx6:=uh HV2 _ _ (uh Qz) hb6;have Vh:=ak (uh HC2 _ hx6);have HB:=ak hx6;clear hb6 hx6;go_wp2_with fail;refine(uh Vh).mono ?_;rintro e w7 ⟨rfl,h9⟩;obtain rfl:=h9.symm;clear h9;go_wp2
      go_roundg (vars.length-(i+1))
      case measure=>have:=uh HG;omega
      case rel=>exact⟨i+1,by omega,rfl,by go_num,uh Lr,uh HB⟩
    ·have hn9:decide ((i:Int)<(vars.length:Int))=false:=iy (by omega)
     have HR4:=ak (V8 (uh HR3) (by rw[yc];exact fun j hj=>by rw[uh Bo j (by have:=uz.1 hj;omega)];rfl));have Bc:=ak (uh HV1 _ (uh Qz));clear HR3 Bo HG HVP HVX HV1 HV2 HV5;have hxA:BX (wq.alloc (.cells #[] 54)).drew:=uh F8 _ _ (uh Bc) ((iq _ _).alloc (gu _) _).drew;have HXA:=ak hxA;have hz9:=uh HX5 _ (uh Bc);have Ua:Hid (jq F5 (wq.alloc (.cells #[] 54)).drew (w.heap.size+2) (.slice (some ⟨wq.heap.size,0,none⟩) 0 0) []):=(jq.start wq (w.heap.size+2) hz9).below (iq _ _).drew;have Xf:=ak (fun w' (h:BX w')=>((uh HCI).stays (uh Ag _ h)).ins);have HOU:=ak (fun w' (h:BX w')=>((uh HCI).stays (uh Ag _ h)).au);have hsm:=(uh HCI).sum;have hzA:w.heap.size+2<=(wq.alloc (.cells #[] 54)).drew.heap.size:=uh HX5 _ hxA;clear hxA;go_wp2_with fail
     go_region_held3 (fun w'=>w'.cell? ⟨w.heap.size+1,1,none⟩=some (.slice b1 k.ins.length c1)/\w'.cell? ⟨w.heap.size+1,2,none⟩=some (.slice b2 k.au.length c2)) (go_keep) (first|(refine Iw F5 aqw _ rfl _ _ rfl (w.heap.size+2) wq.heap.size 0 [] rfl (uh Ua) _ rfl k.ins (uh Xf _ (uh HXA)) (by simp[F5];omega) hzA ?_;intro g1 cap1 w7 ho1 hg1;have anl:=ak (uh HX3 _ _ _ _ (uh HXA) (uh Ua) hg1);rw[Gm,Ar,Ba] at ho1;have Xd:=ak ho1;obtain⟨_,a1,a2,_⟩:=uh Jo _ (uh anl);clear ho1 hg1 Ua;have hz7:=uh HX5 _ (uh anl);simp only[Ar,Ba])|(refine Iw F5 aqw _ rfl _ _ rfl (w.heap.size+2) g1 cap1 k.ins rfl (uh Xd) _ rfl k.au (uh HOU _ (uh anl)) (by simp[F5];omega) hz7 ?_;intro g2 cap2 w8 ho2 hg2;have ayz:=ak (uh HX3 _ _ _ _ (uh anl) (uh Xd) hg2);have HO8:=ak ho2;obtain⟨_,a3,a4,_⟩:=uh Jo _ (uh ayz);clear ho2 hg2 Xd))
     clear Xf HOU HXA a1 a2 a3 a4 hz7 hzA z0 z1 z2 z3 z4 z5 z6 z7 anl;have HSL:=ak ((uh HO8).at (R:=fun _ _ cs (x:jw)=>cs=F5.f x) (fun x _=>rfl) (by rw[jh];simp[F5];omega));have HSN:Hid ((k.ins++k.au).length=k.ins.length+k.au.length):=jh;obtain⟨BT,hBT⟩:∃BT:cu->Prop,∀w',BT w'↔Below w8.heap.size w8 w':=⟨_,fun _=>Iff.rfl⟩;have HT1:Hid (∀w',BT w'->BX w'):=fun w' h=>uh F8 _ _ (uh ayz) ((hBT _).1 h)
     have HT2:Hid (∀w1 w2,BT w1->Below w1.heap.size w1 w2->BT w2):=fun w1 w2 h h2=>(hBT _).2 (((hBT _).1 h).trans (h2.mono ((hBT _).1 h).size))
     have HT0:Hid (BT w8):=(hBT _).2 (iq _ _)
     have HTX:Hid (∀i (hi:i<(k.ins++k.au).length) w',BT w'->w'.cell? ⟨g2,i*2,none⟩=some (.string (k.ins++k.au)[i].name)/\w'.cell? ⟨g2,i*2+1,none⟩=some (.int .i64 (k.ins++k.au)[i].type)):=fun i hi w' h'=>by
      obtain⟨_,_,Ja,_,_,Fh⟩:=uh HSL;simp only[qw] at Ja;obtain⟨Ja,_⟩:=Ja;obtain⟨b,o,cs,Fe,_,hb,_,hc,rfl⟩:=Fh i hi;rw[←Ja] at Fe;simp only[uw,Addr.mk.injEq] at Fe;obtain⟨rfl,rfl,_⟩:=Fe;have h0:=hc 0 (by simp[F5]);have h1:=hc 1 (by simp[F5]);have e0:0+i*F5.sz+0=i*2:=by show 0+i*2+0=i*2;omega
      have e1:0+i*F5.sz+1=i*2+1:=by show 0+i*2+1=i*2+1;omega
      rw[e0] at h0;rw[e1] at h1;exact⟨(((hBT _).1 h').cell (p:=⟨g2,_,none⟩) hb).trans h0,(((hBT _).1 h').cell (p:=⟨g2,_,none⟩) hb).trans h1⟩
     clear HSL HO8 hBT ayz Bc Qz hz9;generalize k.ins++k.au=sl at *;go_wp2
     go_loopg [101] sl.length (fun g iv wr=>∃(i:Nat),i<=sl.length/\g=sl.length-i/\iv=.int .i64 i/\(∀j (hj:j<sl.length),j<i->decide (1<=sl[j].type/\sl[j].type<=2)=true)/\BT wr)
     case atStart=>exact⟨0,jg _,by omega,rfl,fun j _ hj=>absurd hj (yu _),uh HT0⟩
     case round =>
      obtain⟨i,hi,hg,rfl,hno,hbx⟩:=hrel;rename cu=>wt;have HG:=ak hg;have Bo:=ak hno;have L6:=ak hbx;obtain⟨z0,z1,z2,z3,z4,z5,z6,z7⟩:=uh Jo _ (uh HT1 _ hbx);clear hg hno hbx
      by_cases hlt:i<sl.length
      ·obtain⟨x0,x1⟩:=uh HTX i hlt _ (uh L6)
       have HN:Hid (¬(1<=sl[i].type/\sl[i].type<=2)->R=false):=fun h=>Sz (uh HR4) (aar i hlt (iy h))
       have HY:Hid (1<=sl[i].type/\sl[i].type<=2->∀j (hj:j<sl.length),j<i+1->decide (1<=sl[j].type/\sl[j].type<=2)=true):=fun h j hj hji=>by
        by_cases e:j=i
        ·subst e;exact jf h
        ·exact uh Bo j hj (by omega)
       have hl1:(i:Int)<(k.ins.length:Int)+(k.au.length:Int):=by have:=uh HSN;omega
       have hl2:(i:Int)<((k.ins.length+k.au.length:Nat):Int):=by have:=uh HSN;omega
       have hl3:i<k.ins.length+k.au.length:=by have:=uh HSN;omega
       have Ws:=ak (uh HT2 _ _ (uh L6) ((iq _ _).alloc (gu _) (.cells #[.string sl[i].name,.int .i64 sl[i].type] 54)));generalize sl[i].type=ty at *;generalize sl[i].name=sn at *
       by_cases h1:ty<1
       ·have f9:decide (ty<1)=true:=jf h1
        have HF:=ak (uh HN (by omega));clear HN HY;go_wp2;go_ret;exact⟨qm (uh HF).symm,uh Ag _ (uh HT1 _ (uh Ws))⟩
       have f9:decide (ty<1)=false:=iy h1
       by_cases h2:2<ty
       ·have f8:decide (2<ty)=true:=jf h2
        have HF:=ak (uh HN (by omega));clear HN HY;go_wp2;go_ret;exact⟨qm (uh HF).symm,uh Ag _ (uh HT1 _ (uh Ws))⟩
       have f8:decide (2<ty)=false:=iy h2;have Lr:=ak (uh HY (by omega));clear HN HY;go_wp2
       go_roundg (sl.length-(i+1))
       case measure=>have:=uh HG;omega
       case rel=>exact⟨i+1,by omega,rfl,by go_num,uh Lr,uh Ws⟩
      ·have hn8:decide ((i:Int)<(k.ins.length:Int)+(k.au.length:Int))=false:=iy (by have:=uh HSN;omega)
       have hn7:¬(i<k.ins.length+k.au.length):=by have:=uh HSN;omega
       have Xg:=ak (V8 (uh HR4) (Yd (fun j hj=>uh Bo j hj (by omega))));have Gx:=ak (uh HT1 _ (uh L6));clear HR4 Bo HG HTX HT1 HT2 HT0 L6
       have HMX:Hid (∀i (hi:i<k.gq.length),∃b o,b4=some ⟨b,o,none⟩/\∀w',BX w'->w'.cell? ⟨b,o+i,none⟩=some (.int .i64 k.gq[i])):=fun i hi=>by
        obtain⟨_,_,Ja,_,_,Fh⟩:=(uh HCI).gq;simp only[qw] at Ja;obtain⟨rfl,_,rfl⟩:=Ja;obtain⟨b,o,cs,rfl,_,hb,_,hc,⟨rfl,_⟩⟩:=Fh i hi;refine⟨b,o,rfl,fun w' h'=>?_⟩;rw[(uh Ag _ h').cell (p:=⟨b,_,none⟩) hb];have h0:=hc 0 (by simp);rw[jr,ji] at h0;exact h0
       have Oc:Hid (∀i (hi:i<k.ay.length),∃b o,b5=some ⟨b,o,none⟩/\∀w',BX w'->w'.cell? ⟨b,o+i,none⟩=some (.int .i64 k.ay[i])):=fun i hi=>by
        obtain⟨_,_,Ja,_,_,Fh⟩:=(uh HCI).ay;simp only[qw] at Ja;obtain⟨rfl,_,rfl⟩:=Ja;obtain⟨b,o,cs,rfl,_,hb,_,hc,⟨rfl,_⟩⟩:=Fh i hi;refine⟨b,o,rfl,fun w' h'=>?_⟩;rw[(uh Ag _ h').cell (p:=⟨b,_,none⟩) hb];have h0:=hc 0 (by simp);rw[jr,ji] at h0;exact h0
       go_wp2
       go_loopg [117] k.gq.length (fun g iv wr=>∃(i:Nat),i<=k.gq.length/\g=k.gq.length-i/\iv=.int .i64 i/\(∀j (hj:j<k.gq.length),j<i->Wy k.gq[j]=true)/\BX wr)
       case atStart=>exact⟨0,jg _,by omega,rfl,fun j _ hj=>absurd hj (yu _),uh Gx⟩
       case round =>
        obtain⟨i,hi,hg,rfl,hno,hbx⟩:=hrel;rename cu=>wt;have HG:=ak hg;have Bo:=ak hno;have L6:=ak hbx;clear hg hno hbx z0 z1 z2 z3 z4 z5 z6 z7;obtain⟨z0,z1,z2,z3,z4,z5,z6,z7⟩:=uh Jo _ (uh L6)
        by_cases hlt:i<k.gq.length
        ·obtain⟨b,o,Fe,hcx⟩:=uh HMX i hlt
         have x0:=hcx _ (uh L6);have HN:Hid (Wy k.gq[i]=false->R=false):=fun h=>Sz (uh Xg) (aar i hlt h)
         have HY:Hid (Wy k.gq[i]=true->∀j (hj:j<k.gq.length),j<i+1->Wy k.gq[j]=true):=fun h j hj hji=>by
          by_cases e:j=i
          ·subst e;exact h
          ·exact uh Bo j hj (by omega)
         have Ap:=ak (avo k.gq[i] wt);have HM:Hid (Wy k.gq[i]=(k.gq[i]==IntKind.i32.wrap k.gq[i])):=rfl;have hlt':(i:Int)<(k.gq.length:Int):=by omega
         clear hcx;generalize Wy k.gq[i]=mb at *;generalize k.gq[i]=mv at *;generalize IntKind.i32.wrap mv=wv at *;subst Fe;have Wu:=ak (uh Ag _ (uh L6))
         by_cases hq:mv=wv
         ·have f9:(mv != wv)=false:=by simp[hq]
          have Lr:=ak (uh HY ((uh HM).trans (by simp[hq])));clear HN HY HM hq;go_wp2_with fail;refine(uh Ap).mono ?_;rintro e w9 ⟨rfl,h9⟩;obtain rfl:=h9.symm;clear h9;go_wp2
          go_roundg (k.gq.length-(i+1))
          case measure=>have:=uh HG;omega
          case rel=>exact⟨i+1,by omega,rfl,by go_num,uh Lr,uh L6⟩
         ·have f9:(mv != wv)=true:=by simp[hq]
          have HF:=ak (uh HN ((uh HM).trans (by simp[hq])));clear HN HY HM hq;go_wp2_with fail;refine(uh Ap).mono ?_;rintro e w9 ⟨rfl,h9⟩;obtain rfl:=h9.symm;clear h9;go_wp2;go_ret;exact⟨qm (uh HF).symm,uh Wu⟩
        ·have hn8:decide ((i:Int)<(k.gq.length:Int))=false:=iy (by omega)
         have HR6:=ak (V8 (uh Xg) (Yd (fun j hj=>uh Bo j hj (by omega))));clear Xg Bo HG HMX Gx;go_wp2
         go_loopg [129] k.ay.length (fun g iv wr=>∃(i:Nat),i<=k.ay.length/\g=k.ay.length-i/\iv=.int .i64 i/\(∀j (hj:j<k.ay.length),j<i->decide (0<=k.ay[j]/\k.ay[j]<(at':Int))=true)/\wr=wt)
         case atStart=>exact⟨0,jg _,by omega,rfl,fun j _ hj=>absurd hj (yu _),rfl⟩
         case round =>
          obtain⟨i,hi,hg,rfl,hno,hw⟩:=hrel;obtain rfl:=hw.symm;clear hw;have HG:=ak hg;have Bo:=ak hno;clear hg hno;have Wu:=ak (uh Ag _ (uh L6))
          by_cases hlt:i<k.ay.length
          ·obtain⟨b,o,Fe,hcx⟩:=uh Oc i hlt
           have x0:=hcx _ (uh L6);have HN:Hid (¬(0<=k.ay[i]/\k.ay[i]<(at':Int))->R=false):=fun h=>Sz (uh HR6) (aar i hlt (iy h))
           have HY:Hid (0<=k.ay[i]/\k.ay[i]<(at':Int)->∀j (hj:j<k.ay.length),j<i+1->decide (0<=k.ay[j]/\k.ay[j]<(at':Int))=true):=fun h j hj hji=>by
            by_cases e:j=i
            ·subst e;exact jf h
            ·exact uh Bo j hj (by omega)
           have hlt':(i:Int)<(k.ay.length:Int):=by omega
           clear hcx;generalize k.ay[i]=gv at *;subst Fe
           by_cases h1:gv<0
           ·have f9:decide (gv<0)=true:=jf h1
            have HF:=ak (uh HN (by omega));clear HN HY;go_wp2;go_ret;exact⟨qm (uh HF).symm,uh Wu⟩
           have f9:decide (gv<0)=false:=iy h1
           by_cases h2:(at':Int)<=gv
           ·have f8:decide ((at':Int)<=gv)=true:=jf h2
            have HF:=ak (uh HN (by omega));clear HN HY;go_wp2;go_ret;exact⟨qm (uh HF).symm,uh Wu⟩
           have f8:decide ((at':Int)<=gv)=false:=iy h2;have Lr:=ak (uh HY (by omega));clear HN HY;go_wp2
           go_roundg (k.ay.length-(i+1))
           case measure=>have:=uh HG;omega
           case rel=>exact⟨i+1,by omega,rfl,by go_num,uh Lr,rfl⟩
          ·have hn6:decide ((i:Int)<(k.ay.length:Int))=false:=iy (by omega)
           have HR7:=ak (V8 (uh HR6) (Yd (fun j hj=>uh Bo j hj (by omega))))
           have HIO:Hid (∀j (hj:j<k.ay.length),0<=k.ay[j]/\k.ay[j]<(ks.length:Int)):=fun j hj=>by
            have:=xw (uh Bo j hj (by omega));omega
           clear HR6 Bo HG Oc
           have HSX:Hid (∀i (hi:i<k.body.length),∃b o o1 n1 p1 o2 n2 p2 o3 n3 p3,b6=some ⟨b,o,none⟩/\∀w',BX w'->(w'.cell? ⟨b,o+i*6,none⟩=some (.int .i64 k.body[i].kind)/\w'.cell? ⟨b,o+i*6+1,none⟩=some (.string k.body[i].name)/\w'.cell? ⟨b,o+i*6+2,none⟩=some (.int .i64 k.body[i].at_)/\w'.cell? ⟨b,o+i*6+3,none⟩=some (.slice o1 n1 p1)/\w'.cell? ⟨b,o+i*6+4,none⟩=some (.slice o2 n2 p2)/\w'.cell? ⟨b,o+i*6+5,none⟩=some (.slice o3 n3 p3))/\jc 1 16 xk 0 w' (.slice o1 n1 p1) k.body[i].au/\jc 3 32 Gg 0 w' (.slice o2 n2 p2) k.body[i].code/\jc 1 24 Ih 0 w' (.slice o3 n3 p3) k.body[i].args):=fun i hi=>by
            obtain⟨_,_,Ja,_,_,Fh⟩:=(uh HCI).body;simp only[qw] at Ja;obtain⟨rfl,_,rfl⟩:=Ja;obtain⟨b,o,cs,rfl,_,hb,_,hc,⟨u1,u2,u3,rfl,_,_,_,s1,s2,s3⟩⟩:=Fh i hi;obtain⟨o1,p1,rfl⟩:=s1.shape;obtain⟨o2,p2,rfl⟩:=s2.shape;obtain⟨o3,p3,rfl⟩:=s3.shape;refine⟨b,o,o1,k.body[i].au.length,p1,o2,k.body[i].code.length,p2,o3,k.body[i].args.length,p3,rfl,fun w' h'=>?_⟩;have hB:=uh Ag _ h'
            have hc':∀t (ht:t<6),w'.cell? ⟨b,o+i*6+t,none⟩=some (([.int .i64 k.body[i].kind,.string k.body[i].name,.int .i64 k.body[i].at_,.slice o1 k.body[i].au.length p1,.slice o2 k.body[i].code.length p2,.slice o3 k.body[i].args.length p3]:List Value)[t]):=fun t ht=>by
             rw[hB.cell (p:=⟨b,_,none⟩) hb];exact hc t ht
            exact⟨⟨hc' 0 (by omega),hc' 1 (by omega),hc' 2 (by omega),hc' 3 (by omega),hc' 4 (by omega),hc' 5 (by omega)⟩,s1.stays zk hB,s2.stays Ad hB,s3.stays I8 hB⟩
           go_wp2
           go_loopg [144] k.body.length (fun g iv wr=>∃(i:Nat),i<=k.body.length/\g=k.body.length-i/\iv=.int .i64 i/\(∀j (hj:j<k.body.length),j<i->yg ks k k.body[j]=true)/\BX wr)
           case atStart=>exact⟨0,jg _,by omega,rfl,fun j _ hj=>absurd hj (yu _),uh L6⟩
           case round =>
            obtain⟨i,hi,hg,rfl,hno,hbx⟩:=hrel;rename cu=>wu;have HG:=ak hg;have Bo:=ak hno;have Pz:=ak hbx;clear hg hno hbx z0 z1 z2 z3 z4 z5 z6 z7;obtain⟨z0,z1,z2,z3,z4,z5,z6,z7⟩:=uh Jo _ (uh Pz)
            by_cases hlt:i<k.body.length
            ·obtain⟨b,o,o1,n1,p1,o2,n2,p2,o3,n3,p3,Fe,hcx⟩:=uh HSX i hlt
             obtain⟨⟨x0,x1,x2,x3,x4,x5⟩,_⟩:=hcx _ (uh Pz);have HN:Hid (yg ks k k.body[i]=false->R=false):=fun h=>Sz (uh HR7) (aar i hlt h)
             have HY:Hid (yg ks k k.body[i]=true->∀j (hj:j<k.body.length),j<i+1->yg ks k k.body[j]=true):=fun h j hj hji=>by
              by_cases e:j=i
              ·subst e;exact h
              ·exact uh Bo j hj (by omega)
             have Ov:=uh F8 _ _ (uh Pz) ((iq _ wu).alloc (gu _) (.cells #[.int .i64 k.body[i].kind,.string k.body[i].name,.int .i64 k.body[i].at_,.slice o1 n1 p1,.slice o2 n2 p2,.slice o3 n3 p3] 60));obtain⟨_,s1,s2,s3⟩:=hcx _ Ov;have Ap:=ak (asn ks k k.body[i] _ _ _ _ _ _ _ _ _ _ _ ((uh HMM).stays D9 (uh Ag _ Ov)) ((uh HCI).stays (uh Ag _ Ov)) s1 s2 s3 (uh HIO));have Ws:=ak Ov;have hlt':(i:Int)<(k.body.length:Int):=by omega
             clear hcx s1 s2 s3 Ov;generalize yg ks k k.body[i]=sb at *;generalize k.body[i].kind=kd at *;generalize k.body[i].name=sn at *;generalize k.body[i].at_=sa at *;subst Fe;obtain⟨k0,k1,k2,k3,k4,k5,k6,k7⟩:=uh Jo _ (uh Ws)
             cases sb
             ·have HF:=ak (uh HN rfl)
              clear HN HY;go_wp2_with fail;refine(uh Ap).mono ?_;rintro e w9 ⟨rfl,yx⟩;have Wu:=ak (uh Ag _ (uh F8 _ _ (uh Ws) yx));clear yx;go_wp2;go_ret;exact⟨qm (uh HF).symm,uh Wu⟩
             ·have Lr:=ak (uh HY rfl)
              clear HN HY;go_wp2_with fail;refine(uh Ap).mono ?_;rintro e w9 ⟨rfl,yx⟩;have Wu:=ak (uh F8 _ _ (uh Ws) yx);clear yx;go_wp2
              go_roundg (k.body.length-(i+1))
              case measure=>have:=uh HG;omega
              case rel=>exact⟨i+1,by omega,rfl,by go_num,uh Lr,uh Wu⟩
            ·have F9:decide ((i:Int)<(k.body.length:Int))=false:=iy (by omega)
             have HR8:=ak (V8 (uh HR7) (Yd (fun j hj=>uh Bo j hj (by omega))));have Ap:=ak (ap4 (k.body.length+1) k.body _ 0 wu ((uh HCI).stays (uh Ag _ (uh Pz))).body (Sl _) (Int.le_refl _) (by omega));have HW9:=ak (uh Ag _ (uh Pz));clear HR7 Bo HG HIO;generalize hnf:Em (k.body.length+1) (jm k.body) 0=nf at *;clear hnf
             cases nf
             ·have HF:=ak (Sz (uh HR8) rfl)
              clear HR8;go_wp2_with fail;refine(uh Ap).mono ?_;rintro e w9 ⟨rfl,h9⟩;obtain rfl:=h9.symm;clear h9;go_wp2;go_ret;exact⟨qm (uh HF).symm,uh HW9⟩
             have HR9:=ak (V8 (uh HR8) rfl);clear HR8;go_wp2_with fail;refine(uh Ap).mono ?_;rintro e w9 ⟨rfl,h9⟩;obtain rfl:=h9.symm;clear h9 Ap;go_wp2
             go_loopg [161] k.body.length (fun g iv wr=>∃(i:Nat),i<=k.body.length/\g=k.body.length-i/\iv=.int .i64 i/\(∀j,j<i->Ui k.body j=false)/\BX wr)
             case atStart=>exact⟨0,jg _,by omega,rfl,fun j hj=>absurd hj (yu _),uh Pz⟩
             case round =>
              obtain⟨i,hi,hg,rfl,hno,hbx⟩:=hrel;rename cu=>wv;have HG:=ak hg;have Bo:=ak hno;have HBV:=ak hbx;clear hg hno hbx z0 z1 z2 z3 z4 z5 z6 z7;obtain⟨z0,z1,z2,z3,z4,z5,z6,z7⟩:=uh Jo _ (uh HBV)
              by_cases hlt:i<k.body.length
              case neg =>
               have hn4:decide ((i:Int)<(k.body.length:Int))=false:=iy (by omega);have HF:Hid (R=true):=(uh HR9).trans (alu (fun j hj=>uh Bo j (by omega)));have Wu:=ak (uh Ag _ (uh HBV));go_wp2;go_ret;exact⟨qm (uh HF).symm,uh Wu⟩
              obtain⟨b,o,o1,n1,p1,o2,n2,p2,o3,n3,p3,Fe,hcx⟩:=uh HSX i hlt;obtain⟨⟨x0,x1,x2,x3,x4,x5⟩,_⟩:=hcx _ (uh HBV);have HN:Hid (Ui k.body i=true->R=false):=fun h=>(uh HR9).trans (ahz i hlt h)
              have HY:Hid (Ui k.body i=false->∀j,j<i+1->Ui k.body j=false):=fun h j hji=>by
               by_cases e:j=i
               ·subst e;exact h
               ·exact uh Bo j (by omega)
              have HIB:=ak (ayw k.body i hlt);have HPE:=ak (ayx (jm k.body) i);have hkl:(jm k.body).length=k.body.length:=by unfold jm;simp
              rw[hkl] at HPE;clear hkl;have hlt':(i:Int)<(k.body.length:Int):=by omega
              clear hcx;generalize k.body[i].kind=kd at *;generalize k.body[i].name=sn at *;generalize k.body[i].at_=sa at *;have Ov:=uh F8 _ _ (uh HBV) ((iq _ wv).alloc (gu _) (.cells #[.int .i64 kd,.string sn,.int .i64 sa,.slice o1 n1 p1,.slice o2 n2 p2,.slice o3 n3 p3] 60));have Ap:=ak (aem k.body _ i _ ((uh HCI).stays (uh Ag _ Ov)).body hi);have Ws:=ak Ov;have hBS:=ak (oh wv #[.int .i64 kd,.string sn,.int .i64 sa,.slice o1 n1 p1,.slice o2 n2 p2,.slice o3 n3 p3] 60);clear Ov;subst Fe
              by_cases h4:kd=4
              case neg =>
               have y4:(kd==4)=false:=by simp[h4]
               have Lr:=ak (uh HY ((uh HIB).trans (by rw[y4,Aw])));clear HN HY HIB Ap h4;go_wp2
               go_roundg (k.body.length-(i+1))
               case measure=>have:=uh HG;omega
               case rel=>exact⟨i+1,by omega,rfl,by go_num,uh Lr,uh Ws⟩
              have y4:(kd==4)=true:=by simp[h4]
              rw[y4,Ak] at HIB;obtain⟨BS,ah0⟩:∃BS:cu->Prop,∀w',BS w'↔Below (wv.alloc (.cells #[.int .i64 kd,.string sn,.int .i64 sa,.slice o1 n1 p1,.slice o2 n2 p2,.slice o3 n3 p3] 60)).heap.size (wv.alloc (.cells #[.int .i64 kd,.string sn,.int .i64 sa,.slice o1 n1 p1,.slice o2 n2 p2,.slice o3 n3 p3] 60)) w':=⟨_,fun _=>Iff.rfl⟩;have Ub:Hid (∀w',BS w'->BX w'):=fun w' h=>uh F8 _ _ (uh Ws) ((ah0 _).1 h)
              have HS2:Hid (∀w1 w2,BS w1->Below w1.heap.size w1 w2->BS w2):=fun w1 w2 h h2=>(ah0 _).2 (((ah0 _).1 h).trans (h2.mono ((ah0 _).1 h).size))
              have Vj:Hid (∀w',BS w'->w'.cell? ⟨wv.heap.size,1,none⟩=some (.string sn)):=fun w' h=>((uh hBS).below ((ah0 _).1 h) (uh hBS).lt).cell (i:=1) (v:=.string sn) rfl
              have HS0:Hid (BS (wv.alloc (.cells #[.int .i64 kd,.string sn,.int .i64 sa,.slice o1 n1 p1,.slice o2 n2 p2,.slice o3 n3 p3] 60))):=(ah0 _).2 (iq _ _);obtain⟨k0,k1,k2,k3,k4,k5,k6,k7⟩:=uh Jo _ (uh Ws);clear h4 ah0 hBS;generalize uo (jm k.body) i=pp at *;obtain⟨po,pe⟩:=pp;simp only at HIB HPE Ap;have hpe:=uh HPE;go_wp2_with fail;refine(uh Ap).mono ?_;rintro e w9 ⟨rfl,h9⟩;obtain rfl:=h9.symm;clear h9 Ap;go_wp2
              go_loopg [22] (pe.toNat-i) (fun g jv wr=>∃(j:Nat),i<=j/\j<=k.body.length/\g=pe.toNat-j/\jv=.int .i64 j/\(∀q,i<=q->q<j->(match k.body[q]? with|some t=>Wn t sn|none=>false)=false)/\BS wr)
              case atStart=>exact⟨i,gu _,hi,rfl,rfl,fun q h1 h2=>absurd h2 (by omega),uh HS0⟩
              case round =>
               obtain⟨j,hij,hjb,hg,rfl,hno,hbs⟩:=hrel;rename cu=>wj;have HGJ:=ak hg;have HNJ:=ak hno;have HBJ:=ak hbs;clear hg hno hbs k0 k1 k2 k3 k4 k5 k6 k7 z0 z1 z2 z3 z4 z5 z6 z7 x0 x1 x2 x3 x4 x5;obtain⟨z0,z1,z2,z3,z4,z5,z6,z7⟩:=uh Jo _ (uh Ub _ (uh HBJ));have y1:=uh Vj _ (uh HBJ)
               by_cases hjp:(j:Int)<pe
               case neg =>
                have f9:decide ((j:Int)<pe)=false:=iy hjp
                have Lr:=ak (uh HY ((uh HIB).trans (a6v (fun q hq=>by
                 by_cases h1:i<=q
                 ·rw[jf h1,Ak];exact uh HNJ q h1 (by omega)
                 ·rw[iy h1,Aw]))))
                have Wu:=ak (uh Ub _ (uh HBJ));clear HN HY HIB;go_wp2
                go_roundg (k.body.length-(i+1))
                case measure=>have:=uh HG;omega
                case rel=>exact⟨i+1,by omega,rfl,by go_num,uh Lr,uh Wu⟩
               have f9:decide ((j:Int)<pe)=true:=jf hjp;have hjl:j<k.body.length:=by omega
               obtain⟨b',o',t1,m1,r1,t2,m2,r2,t3,m3,r3,a6w,hcx⟩:=uh HSX j hjl;simp only[uw,Addr.mk.injEq] at a6w;obtain⟨rfl,rfl,_⟩:=a6w;obtain⟨⟨x0,x1,x2,x3,x4,x5⟩,_⟩:=hcx _ (uh Ub _ (uh HBJ));have ay0:Hid (Wn k.body[j] sn=true->R=false):=fun h=>uh HN ((uh HIB).trans (a3u j (by omega) (by rw[jf hij,Ak,jy hjl];exact h)))
               have ay1:Hid (Wn k.body[j] sn=false->∀q,i<=q->q<j+1->(match k.body[q]? with|some t=>Wn t sn|none=>false)=false):=fun h q h1 h2=>by
                by_cases e:q=j
                ·subst e;rw[jy hjl];exact h
                ·exact uh HNJ q h1 (by omega)
               have hdr:=uh HS2 _ _ (uh HBJ) (iq _ wj).drew;have a6x:=ak (ap5 k.body[j] sn _ _ _ wj.drew (hcx _ (uh Ub _ hdr)).2.1 ⟨t2,m2,r2,rfl⟩ ⟨t3,m3,r3,rfl⟩);have J9:=ak (fun w' h=>(hcx w' (uh Ub w' h)).1);have bet:(j:Int)<(k.body.length:Int):=by omega
               clear hcx;generalize Wn k.body[j] sn=wb at *;generalize k.body[j].kind=jk at *;generalize k.body[j].name=jn at *;generalize k.body[j].at_=ja at *
               have HCW:Hid (Calls Tryz.prog 86 #[.agg #[.int .i64 jk,.string jn,.int .i64 ja,.slice t1 m1 r1,.slice t2 m2 r2,.slice t3 m3 r3],.string sn] wj.drew fun e w9=>e=.returned (.bool wb)/\BS w9/\w9.cell? ⟨w.heap.size+1,6,none⟩=some (.slice (some ⟨b,o,none⟩) k.body.length c6)/\w9.cell? ⟨b,o+j*6,none⟩=some (.int .i64 jk)/\w9.cell? ⟨b,o+j*6+1,none⟩=some (.string jn)/\w9.cell? ⟨b,o+j*6+2,none⟩=some (.int .i64 ja)/\w9.cell? ⟨b,o+j*6+3,none⟩=some (.slice t1 m1 r1)/\w9.cell? ⟨b,o+j*6+4,none⟩=some (.slice t2 m2 r2)/\w9.cell? ⟨b,o+j*6+5,none⟩=some (.slice t3 m3 r3)/\w9.cell? ⟨wv.heap.size,1,none⟩=some (.string sn)):=by
                refine(uh a6x).mono ?_;rintro e w9 ⟨rfl,yx⟩;have h9:=uh HS2 _ _ hdr yx;obtain⟨c0,c1',c2',c3',c4',c5'⟩:=uh J9 w9 h9;obtain⟨_,_,_,_,_,_,_,q7⟩:=uh Jo _ (uh Ub _ h9);have hs9:=uh Vj _ h9;exact⟨rfl,h9,q7,c0,c1',c2',c3',c4',c5',hs9⟩
               clear a6x J9 hdr;generalize wv.heap.size=vb at *
               cases wb
               ·have Lr:=ak (uh ay1 rfl)
                clear ay0 ay1 HN HY;go_wp2_with fail
                go_region_held3 (fun w'=>w'.cell? ⟨w.heap.size+1,6,none⟩=some (.slice (some ⟨b,o,none⟩) k.body.length c6)/\w'.cell? ⟨b,o+j*6,none⟩=some (.int .i64 jk)/\w'.cell? ⟨b,o+j*6+1,none⟩=some (.string jn)/\w'.cell? ⟨b,o+j*6+2,none⟩=some (.int .i64 ja)/\w'.cell? ⟨b,o+j*6+3,none⟩=some (.slice t1 m1 r1)/\w'.cell? ⟨b,o+j*6+4,none⟩=some (.slice t2 m2 r2)/\w'.cell? ⟨b,o+j*6+5,none⟩=some (.slice t3 m3 r3)/\w'.cell? ⟨vb,1,none⟩=some (.string sn)) (go_keep) (first|(go_at_call 86;refine(uh HCW).mono ?_;rintro e w9 ⟨rfl,hB9,l0,l1,l2,l3,l4,l5,l6,l7⟩))
                have Wu:=ak hB9;go_wp2
                go_roundg (pe.toNat-(j+1))
                case measure=>have:=uh HGJ;omega
                case rel=>exact⟨j+1,by omega,by omega,rfl,by go_num,uh Lr,uh Wu⟩
               ·have HF:=ak (uh ay0 rfl)
                clear ay0 ay1 HN HY;go_wp2_with fail
                go_region_held3 (fun w'=>w'.cell? ⟨w.heap.size+1,6,none⟩=some (.slice (some ⟨b,o,none⟩) k.body.length c6)/\w'.cell? ⟨b,o+j*6,none⟩=some (.int .i64 jk)/\w'.cell? ⟨b,o+j*6+1,none⟩=some (.string jn)/\w'.cell? ⟨b,o+j*6+2,none⟩=some (.int .i64 ja)/\w'.cell? ⟨b,o+j*6+3,none⟩=some (.slice t1 m1 r1)/\w'.cell? ⟨b,o+j*6+4,none⟩=some (.slice t2 m2 r2)/\w'.cell? ⟨b,o+j*6+5,none⟩=some (.slice t3 m3 r3)/\w'.cell? ⟨vb,1,none⟩=some (.string sn)) (go_keep) (first|(go_at_call 86;refine(uh HCW).mono ?_;rintro e w9 ⟨rfl,hB9,l0,l1,l2,l3,l4,l5,l6,l7⟩))
                have Wu:=ak (uh Ag _ (uh Ub _ hB9));go_wp2;go_ret;exact⟨qm (uh HF).symm,uh Wu⟩
end Go.Proofs.YtfeejeflmcapoaaGreatDoor
