import Derived.Test.YtfeejeflmcapoaaGreatDoorMQ3
set_option linter.unusedSimpArgs false
set_option linter.unusedVariables false
set_option maxHeartbeats 8000000
namespace Go.Proofs.YtfeejeflmcapoaaGreatDoor
open Go.RowKit
theorem Tj {a b c:Bool} (h:c=(a&&b)) (ha:a=false):c=false:=by rw[h,ha];rfl
theorem Wj {a b c:Bool} (h:c=(a&&b)) (ha:a=true):c=b:=by rw[h,ha];rfl
theorem adq {n:Bool} {p q r s:Prop} [Decidable p] [Decidable q] [Decidable r] [Decidable s] (h:n=false∨¬p∨¬q∨¬r∨¬s):(n&&decide p&&decide q&&decide r&&decide s)=false:=by
 rcases h with h|h|h|h|h<;>simp[h]
theorem avp (vars:List dh) (i:Nat) (hi:i<vars.length):Qk vars i=(!nameB vars[i]||decide (jd vars vars[i]<(i:Int))):=by
 unfold Qk;rw[jy hi]
theorem ay1 (body:List lu) (i:Nat) (hi:i<body.length):Um body i=(body[i].kind == 4&&(List.range (uj (jl body) i).2.toNat).any (fun j=>decide (i<=j)&&(match body[j]? with|some t=>Wv t body[i].name|none=>false))):=by
 unfold Um;rw[jy hi];rfl
theorem ay2 (ks:List Int) (i:Nat):(uj ks i).2<(ks.length:Int) ∧ -1<=(uj ks i).2∨(uj ks i).2<0:=by
 by_cases h:0<=(uj ks i).2
 ·left
  have:=avq (ks.drop i) i 0 (-1) h;rw[Dh] at this;unfold uj at *;omega
 ·right;omega
theorem a4f {n:Nat} {p:Nat->Bool} (i:Nat) (hi:i<n) (h:p i=true):(List.range n).any p=true:=by
 rw[List.any_eq_true];exact⟨i,uw.2 hi,h⟩
theorem a7k {n:Nat} {p:Nat->Bool} (h:∀j,j<n->p j=false):(List.range n).any p=false:=by
 rw[List.any_eq_false];intro x hx;rw[h x (uw.1 hx)];simp
theorem ay3 (ks:List dw) (i:Nat) (hi:i<ks.length):He ks i=((nameB ks[i].name&&decide (1<=ks[i].ak.length)&&decide (ks[i].eu.length<=1000)&&decide (ks[i].au.length<=1000)&&decide (ks[i].body.length<=30000))
  && ((List.range i).all (fun j=>!(match ks[j]? with|some y=>y.name.toList == ks[i].name.toList|none=>false))
  && (decide ((varsOf ks[i]).length<=1000)
  && ((List.range (varsOf ks[i]).length).all (fun j=>!Qk (varsOf ks[i]) j)
  && ((ks[i].ins++ks[i].ak).all (fun t=>decide (1<=t.type∧t.type<=2))
  && (ks[i].eu.all Xc
  && (ks[i].au.all (fun g=>decide (0<=g∧g<(i:Int)))
  && (ks[i].body.all (x9 ks ks[i])
  && (Eu (ks[i].body.length+1) (jl ks[i].body) 0
  && (List.range ks[i].body.length).all (fun j=>!Um ks[i].body j)))))))))):=by
 unfold He;rw[jy hi];rfl
set_option maxRecDepth 20000 in
theorem anl (ks:List dw) (v:Value) (at':Nat) (w:bf) (hm:iy 7 160 Dl 0 w v ks) (hat:at'<ks.length) (hsum:∀i (hi:i<ks.length),ks[i].ins.length+ks[i].ak.length+ks[i].iq.length<=1048576) :
  Calls Tryz.prog 52 #[.agg #[v],.int .i64 (at':Int)] w (Ans (.bool (He ks at')) w):=by
 have HMM:=hide hm;have hlm:=hm.Bz;obtain⟨_,cm,rfl,_,_,hx⟩:=hm;obtain⟨bm,om,cs,rfl,_,hbm,_,hc,⟨v1,v2,v3,v4,v5,v6,rfl,hnl,t1,t2,t3,t4,t5,t6⟩⟩:=hx at' hat;have HCI:Hid (Oz w ks[at'] v1 v2 v3 v4 v5 v6):=⟨t1,t2,t3,t4,t5,t6,hnl,hsum at' hat⟩
 have HNM:Hid (∀j (hj:j<ks.length),bm<w.heap.size∧w.cell? ⟨bm,om+j*7,none⟩=some (.string ks[j].name)):=fun j hj=>by
  obtain⟨b9,o9,cs9,e9,_,yu,_,hc9,⟨_,_,_,_,_,_,rfl,_⟩⟩:=hx j hj;simp only[uo,Addr.mk.injEq] at e9;obtain⟨rfl,rfl,_⟩:=e9;exact⟨yu,hc9 0 (by simp)⟩
 have HB:=hide (ay3 ks at' hat);generalize He ks at'=R at *;generalize hk:ks[at']=k at *;clear hk hx hsum;obtain⟨b1,c1,rfl⟩:=t1.shape;obtain⟨b2,c2,rfl⟩:=t2.shape;obtain⟨b3,c3,rfl⟩:=t3.shape;obtain⟨b4,c4,rfl⟩:=t4.shape;obtain⟨b5,c5,rfl⟩:=t5.shape;obtain⟨b6,c6,rfl⟩:=t6.shape;have l2:=t2.Bz;have l4:=t4.Bz;have l5:=t5.Bz;have l6:=t6.Bz;have y0:=hc 0 (by simp);have y1:=hc 1 (by simp);have y2:=hc 2 (by simp);have y3:=hc 3 (by simp);have y4:=hc 4 (by simp);have y5:=hc 5 (by simp);have y6:=hc 6 (by simp);simp only[jh,ny,o8] at y0 y1 y2 y3 y4 y5 y6;clear t1 t2 t3 t4 t5 t6 hc;have hA1:Below w.heap.size w (w.alloc (.cells #[.slice (some ⟨bm,om,none⟩) ks.length cm] 24)):=(gy _ _).alloc (gq _) _;have hA:Below w.heap.size w ((w.alloc (.cells #[.slice (some ⟨bm,om,none⟩) ks.length cm] 24)).alloc (.cells #[.string k.name,.slice b1 k.ins.length c1,.slice b2 k.ak.length c2,.slice b3 k.iq.length c3,.slice b4 k.eu.length c4,.slice b5 k.au.length c5,.slice b6 k.body.length c6] 50)):=hA1.alloc (by simp) _;have hB1:jc ((w.alloc (.cells #[.slice (some ⟨bm,om,none⟩) ks.length cm] 24)).alloc (.cells #[.string k.name,.slice b1 k.ins.length c1,.slice b2 k.ak.length c2,.slice b3 k.iq.length c3,.slice b4 k.eu.length c4,.slice b5 k.au.length c5,.slice b6 k.body.length c6] 50)) w.heap.size 24 #[.slice (some ⟨bm,om,none⟩) ks.length cm]:=(og w #[.slice (some ⟨bm,om,none⟩) ks.length cm] 24).below ((gy _ _).alloc (gq _) _) (by simp)
 have hB2:jc ((w.alloc (.cells #[.slice (some ⟨bm,om,none⟩) ks.length cm] 24)).alloc (.cells #[.string k.name,.slice b1 k.ins.length c1,.slice b2 k.ak.length c2,.slice b3 k.iq.length c3,.slice b4 k.eu.length c4,.slice b5 k.au.length c5,.slice b6 k.body.length c6] 50)) (w.heap.size+1) 50 #[.string k.name,.slice b1 k.ins.length c1,.slice b2 k.ak.length c2,.slice b3 k.iq.length c3,.slice b4 k.eu.length c4,.slice b5 k.au.length c5,.slice b6 k.body.length c6]:=by
  have h0:=og (w.alloc (.cells #[.slice (some ⟨bm,om,none⟩) ks.length cm] 24)) #[.string k.name,.slice b1 k.ins.length c1,.slice b2 k.ak.length c2,.slice b3 k.iq.length c3,.slice b4 k.eu.length c4,.slice b5 k.au.length c5,.slice b6 k.body.length c6] 50;rw[show (w.alloc (.cells #[.slice (some ⟨bm,om,none⟩) ks.length cm] 24)).heap.size=w.heap.size+1 from by simp] at h0;exact h0
 obtain⟨BX,l9⟩:∃BX:bf->Prop,∀w',BX w'↔Below (w.heap.size+2) ((w.alloc (.cells #[.slice (some ⟨bm,om,none⟩) ks.length cm] 24)).alloc (.cells #[.string k.name,.slice b1 k.ins.length c1,.slice b2 k.ak.length c2,.slice b3 k.iq.length c3,.slice b4 k.eu.length c4,.slice b5 k.au.length c5,.slice b6 k.body.length c6] 50)) w':=⟨_,fun _=>Iff.rfl⟩;have Xi:((w.alloc (.cells #[.slice (some ⟨bm,om,none⟩) ks.length cm] 24)).alloc (.cells #[.string k.name,.slice b1 k.ins.length c1,.slice b2 k.ak.length c2,.slice b3 k.iq.length c3,.slice b4 k.eu.length c4,.slice b5 k.au.length c5,.slice b6 k.body.length c6] 50)).heap.size=w.heap.size+2:=by simp
 have Ak:Hid (∀w1,BX w1->Below w.heap.size w w1):=fun w1 h=>hA.trans (((l9 w1).1 h).mono (by omega))
 have Gl:Hid (∀w1 w2,BX w1->Below w1.heap.size w1 w2->BX w2):=fun w1 w2 h h2=>(l9 w2).2 (((l9 w1).1 h).trans (h2.mono (by have:=((l9 w1).1 h).size;omega)))
 have Js:Hid (∀w1,BX w1->w1.cell? ⟨w.heap.size,0,none⟩=some (.slice (some ⟨bm,om,none⟩) ks.length cm)∧w1.cell? ⟨w.heap.size+1,0,none⟩=some (.string k.name)∧w1.cell? ⟨w.heap.size+1,1,none⟩=some (.slice b1 k.ins.length c1)∧w1.cell? ⟨w.heap.size+1,2,none⟩=some (.slice b2 k.ak.length c2)∧w1.cell? ⟨w.heap.size+1,3,none⟩=some (.slice b3 k.iq.length c3)∧w1.cell? ⟨w.heap.size+1,4,none⟩=some (.slice b4 k.eu.length c4)∧w1.cell? ⟨w.heap.size+1,5,none⟩=some (.slice b5 k.au.length c5)∧w1.cell? ⟨w.heap.size+1,6,none⟩=some (.slice b6 k.body.length c6)):=fun w1 h=>⟨(hB1.below ((l9 w1).1 h) (by omega)).cell (i:=0) (v:=.slice (some ⟨bm,om,none⟩) ks.length cm) rfl,(hB2.below ((l9 w1).1 h) (by omega)).cell (i:=0) (v:=.string k.name) rfl,(hB2.below ((l9 w1).1 h) (by omega)).cell (i:=1) (v:=.slice b1 k.ins.length c1) rfl,(hB2.below ((l9 w1).1 h) (by omega)).cell (i:=2) (v:=.slice b2 k.ak.length c2) rfl,(hB2.below ((l9 w1).1 h) (by omega)).cell (i:=3) (v:=.slice b3 k.iq.length c3) rfl,(hB2.below ((l9 w1).1 h) (by omega)).cell (i:=4) (v:=.slice b4 k.eu.length c4) rfl,(hB2.below ((l9 w1).1 h) (by omega)).cell (i:=5) (v:=.slice b5 k.au.length c5) rfl,(hB2.below ((l9 w1).1 h) (by omega)).cell (i:=6) (v:=.slice b6 k.body.length c6) rfl⟩
 have HX5:Hid (∀w1,BX w1->w.heap.size+2<=w1.heap.size):=fun w1 h=>by have:=((l9 w1).1 h).size;omega
 have HX0:Hid (BX ((w.alloc (.cells #[.slice (some ⟨bm,om,none⟩) ks.length cm] 24)).alloc (.cells #[.string k.name,.slice b1 k.ins.length c1,.slice b2 k.ak.length c2,.slice b3 k.iq.length c3,.slice b4 k.eu.length c4,.slice b5 k.au.length c5,.slice b6 k.body.length c6] 50))):=(l9 _).2 (gy _ _);have HX3:Hid (∀w1 w2 v (xs:List jw),BX w1->jm Gh w1 (w.heap.size+2) v xs->w1.grownBy w2 v.ownBlock->BX w2):=fun w1 w2 v xs h ho hg=>(l9 w2).2 (ho.grown ((l9 w1).1 h) hg (by have:=((l9 w1).1 h).size;omega) (gq _))
 have HCN:=hide (aci k.name ((w.alloc (.cells #[.slice (some ⟨bm,om,none⟩) ks.length cm] 24)).alloc (.cells #[.string k.name,.slice b1 k.ins.length c1,.slice b2 k.ak.length c2,.slice b3 k.iq.length c3,.slice b4 k.eu.length c4,.slice b5 k.au.length c5,.slice b6 k.body.length c6] 50)) hnl);have hat':(at':Int)<(ks.length:Int):=by omega
 have HR:=HB;clear HB hA1 hA hB1 hB2 l9 Xi;generalize nameB k.name=nb at *
 cases nb
 ·have HF:=hide (Tj (uh HR) (adq (Or.inl rfl)))
  clear HR;go_enter Tryz.func52,Tryz.ntmps52;go_wp2_with fail;refine(uh HCN).mono ?_;rintro e wn ⟨rfl,hbn⟩;have hxn:=uh Gl _ _ (uh HX0) hbn;have Vk:=hide hxn;obtain⟨q0,q1,q2,q3,q4,q5,q6,q7⟩:=uh Js _ hxn;have HBB:=hide (uh Ak _ hxn);clear hbn hxn;go_wp2;go_ret;exact⟨qo (uh HF).symm,uh HBB⟩
 by_cases hq:1<=k.ak.length
 case neg =>
  have d9:decide ((k.ak.length:Int)<1)=true:=jf (by omega);have HF:=hide (Tj (uh HR) (adq (Or.inr (Or.inl hq))));clear HR hq;go_enter Tryz.func52,Tryz.ntmps52;go_wp2_with fail;refine(uh HCN).mono ?_;rintro e wn ⟨rfl,hbn⟩;have hxn:=uh Gl _ _ (uh HX0) hbn;have Vk:=hide hxn;obtain⟨q0,q1,q2,q3,q4,q5,q6,q7⟩:=uh Js _ hxn;have HBB:=hide (uh Ak _ hxn);clear hbn hxn;go_wp2;go_ret;exact⟨qo (uh HF).symm,uh HBB⟩
 have f1:decide ((k.ak.length:Int)<1)=false:=iw (by omega);have E1:=hide hq;clear hq
 by_cases hq:k.eu.length<=1000
 case neg =>
  have d9:decide (1000<(k.eu.length:Int))=true:=jf (by omega);have HF:=hide (Tj (uh HR) (adq (Or.inr (Or.inr (Or.inl hq)))));clear HR hq;go_enter Tryz.func52,Tryz.ntmps52;go_wp2_with fail;refine(uh HCN).mono ?_;rintro e wn ⟨rfl,hbn⟩;have hxn:=uh Gl _ _ (uh HX0) hbn;have Vk:=hide hxn;obtain⟨q0,q1,q2,q3,q4,q5,q6,q7⟩:=uh Js _ hxn;have HBB:=hide (uh Ak _ hxn);clear hbn hxn;go_wp2;go_ret;exact⟨qo (uh HF).symm,uh HBB⟩
 have f2:decide (1000<(k.eu.length:Int))=false:=iw (by omega);have E2:=hide hq;clear hq
 by_cases hq:k.au.length<=1000
 case neg =>
  have d9:decide (1000<(k.au.length:Int))=true:=jf (by omega);have HF:=hide (Tj (uh HR) (adq (Or.inr (Or.inr (Or.inr (Or.inl hq))))));clear HR hq;go_enter Tryz.func52,Tryz.ntmps52;go_wp2_with fail;refine(uh HCN).mono ?_;rintro e wn ⟨rfl,hbn⟩;have hxn:=uh Gl _ _ (uh HX0) hbn;have Vk:=hide hxn;obtain⟨q0,q1,q2,q3,q4,q5,q6,q7⟩:=uh Js _ hxn;have HBB:=hide (uh Ak _ hxn);clear hbn hxn;go_wp2;go_ret;exact⟨qo (uh HF).symm,uh HBB⟩
 have f3:decide (1000<(k.au.length:Int))=false:=iw (by omega);have E3:=hide hq;clear hq
 by_cases hq:k.body.length<=30000
 case neg =>
  have d9:decide (30000<(k.body.length:Int))=true:=jf (by omega);have HF:=hide (Tj (uh HR) (adq (Or.inr (Or.inr (Or.inr (Or.inr hq))))));clear HR hq;go_enter Tryz.func52,Tryz.ntmps52;go_wp2_with fail;refine(uh HCN).mono ?_;rintro e wn ⟨rfl,hbn⟩;have hxn:=uh Gl _ _ (uh HX0) hbn;have Vk:=hide hxn;obtain⟨q0,q1,q2,q3,q4,q5,q6,q7⟩:=uh Js _ hxn;have HBB:=hide (uh Ak _ hxn);clear hbn hxn;go_wp2;go_ret;exact⟨qo (uh HF).symm,uh HBB⟩
 have f4:decide (30000<(k.body.length:Int))=false:=iw (by omega);have E4:=hide hq;have HR1:=hide (Wj (uh HR) (by rw[jf (uh E1),jf (uh E2),jf (uh E3),jf hq];rfl));clear HR hq;go_enter Tryz.func52,Tryz.ntmps52;go_wp2_with fail;refine(uh HCN).mono ?_;rintro e wn ⟨rfl,hbn⟩;have hxn:=uh Gl _ _ (uh HX0) hbn;have Vk:=hide hxn;obtain⟨q0,q1,q2,q3,q4,q5,q6,q7⟩:=uh Js _ hxn;have HBB:=hide (uh Ak _ hxn);clear hbn hxn;go_wp2
 go_loopg [6] at' (fun g iv wr=>∃(i:Nat),i<=at'∧g=at'-i∧iv=.int .i64 i∧(∀j,j<i->(match ks[j]? with|some y=>y.name.toList == k.name.toList|none=>false)=false)∧BX wr)
 case atStart=>exact⟨0,jg _,by omega,rfl,fun j hj=>absurd hj (yt _),uh Vk⟩
 case round =>
  obtain⟨i,hi,hg,rfl,hno,hbx⟩:=hrel;rename bf=>wr;have HG:=hide hg;have Cc:=hide hno;have Ef:=hide hbx;obtain⟨z0,z1,z2,z3,z4,z5,z6,z7⟩:=uh Js _ hbx;have HQn:Hid (∀n,BX (wr.drewN n)):=fun n=>uh Gl _ _ (uh Ef) ⟨rfl,rfl,rfl,gq _,fun _ _=>rfl⟩
  clear hg hno
  by_cases hlt:i<at'
  ·have hlk:i<ks.length:=by omega
   obtain⟨yu,x0⟩:=uh HNM i hlk;rw[←(uh Ak _ hbx).cell (p:=⟨bm,_,none⟩) yu] at x0;have HN:Hid ((ks[i].name.toList == k.name.toList)=true->R=false):=fun h=>Tj (uh HR1) (by rw[List.all_eq_false];exact⟨i,uw.2 hlt,by rw[jy hlk];simp only[h];simp⟩)
   have HY:Hid ((ks[i].name.toList == k.name.toList)=false->∀j,j<i+1->(match ks[j]? with|some y=>y.name.toList == k.name.toList|none=>false)=false):=fun h j hji=>by
    by_cases e:j=i
    ·subst e;rw[jy hlk];exact h
    ·exact uh Cc j (by omega)
   have hlt':(i:Int)<(at':Int):=by omega
   have bff:(i:Int)<(ks.length:Int):=by omega
   generalize ks[i].name=yn at *;clear hlk hbx
   cases hq:(yn.toList == k.name.toList)
   ·have Ls:=hide (uh HY hq)
    clear HN HY;go_wp2_with fail;go_quiet ((fail));go_wp2
    go_roundg (at'-(i+1))
    case measure=>have:=uh HG;omega
    case rel=>exact⟨i+1,by omega,rfl,by go_num,uh Ls,uh HQn _⟩
   ·have HF:=hide (uh HN hq)
    clear HN HY;go_wp2_with fail;go_quiet ((fail));go_wp2;go_ret;exact⟨qo (uh HF).symm,uh Ak _ (uh HQn _)⟩
  ·have hn':decide ((i:Int)<(at':Int))=false:=iw (by omega)
   have HR2:=hide (Wj (uh HR1) (by rw[xw];exact fun j hj=>by rw[uh Cc j (by have:=uw.1 hj;omega)];rfl));have HV0:=hide (Qa k _ _ _ (.slice b4 k.eu.length c4) (.slice b5 k.au.length c5) (.slice b6 k.body.length c6) wr ((uh HCI).stays (uh Ak _ hbx)).ins ((uh HCI).stays (uh Ak _ hbx)).ak ((uh HCI).stays (uh Ak _ hbx)).iq (uh HCI).sum);clear HR1 Cc HG hbx HQn;go_wp2_with fail;refine(uh HV0).mono ?_;rintro e w5 ⟨vv,rfl,hVS,hb5⟩;have hx5:=uh Gl _ _ (uh Ef) hb5;obtain⟨va,vc,rfl⟩:=hVS.shape;have lv:=hVS.Bz;obtain⟨BV,hBV⟩:∃BV:bf->Prop,∀w',BV w'↔Below w5.heap.size w5 w':=⟨_,fun _=>Iff.rfl⟩;have HV1:Hid (∀w',BV w'->BX w'):=fun w' h=>uh Gl _ _ hx5 ((hBV _).1 h)
   have HV2:Hid (∀w1 w2,BV w1->Below w1.heap.size w1 w2->BV w2):=fun w1 w2 h h2=>(hBV _).2 (((hBV _).1 h).trans (h2.mono ((hBV _).1 h).size))
   have HVP:=hide (fun x w' (h:BV w')=>Aa (varsOf k) _ x w' (hVS.stays zo ((hBV _).1 h)))
   have HVX:Hid (∀i (hi:i<(varsOf k).length),∃b o,va=some ⟨b,o,none⟩∧Len (varsOf k)[i].size∧∀w',BV w'->w'.cell? ⟨b,o+i,none⟩=some (.string (varsOf k)[i])):=fun i hi=>by
    obtain⟨_,_,Jb,_,_,F5⟩:=hVS;simp only[qw] at Jb;obtain⟨rfl,_,rfl⟩:=Jb;obtain⟨b,o,cs,rfl,_,hb,_,hc,⟨rfl,hlen⟩⟩:=F5 i hi;refine⟨b,o,rfl,hlen,fun w' h'=>?_⟩;rw[((hBV _).1 h').cell (p:=⟨b,_,none⟩) hb];have h0:=hc 0 (by simp);rw[jr,jh] at h0;exact h0
   have HV5:Hid (BV w5):=(hBV _).2 (gy _ _);have HW5:=hide (uh Ak _ hx5);clear hb5 hx5 hVS hBV HV0;generalize varsOf k=vars at *
   by_cases hvl:vars.length<=1000
   case neg =>
    have d9:decide (1000<(vars.length:Int))=true:=jf (by omega);have HF:=hide (Tj (uh HR2) (iw hvl));clear HR2 hvl;go_wp2;go_ret;exact⟨qo (uh HF).symm,uh HW5⟩
   have d9:decide (1000<(vars.length:Int))=false:=iw (by omega);have HR3:=hide (Wj (uh HR2) (jf hvl));clear HR2 hvl z0 z1 z2 z3 z4 z5 z6 z7;go_wp2
   go_loopg [77] vars.length (fun g iv wr=>∃(i:Nat),i<=vars.length∧g=vars.length-i∧iv=.int .i64 i∧(∀j,j<i->Qk vars j=false)∧BV wr)
   case atStart=>exact⟨0,jg _,by omega,rfl,fun j hj=>absurd hj (yt _),uh HV5⟩
   case round =>
    obtain⟨i,hi,hg,rfl,hno,hbx⟩:=hrel;rename bf=>wq;have HG:=hide hg;have Cc:=hide hno;have Rk:=hide hbx;obtain⟨z0,z1,z2,z3,z4,z5,z6,z7⟩:=uh Js _ (uh HV1 _ hbx);clear hg hno hbx
    by_cases hlt:i<vars.length
    ·obtain⟨b,o,rfl,hlen,hcx⟩:=uh HVX i hlt
     have x0:=hcx _ (uh Rk);have HOB:=hide (avp vars i hlt);have HN:Hid (Qk vars i=true->R=false):=fun h=>Tj (uh HR3) (ah1 i hlt h)
     have HY:Hid (Qk vars i=false->∀j,j<i+1->Qk vars j=false):=fun h j hji=>by
      by_cases e:j=i
      ·subst e;exact h
      ·exact uh Cc j (by omega)
     have Aw:=hide (aci vars[i] wq hlen);have HC2:=hide (fun w' hb=>uh HVP vars[i] w' hb);have hlt':(i:Int)<(vars.length:Int):=by omega
     have hpb:=X3 vars vars[i];clear hcx hlen;generalize jd vars vars[i]=pl at *;generalize Qk vars i=ob at *;generalize nameB vars[i]=nb at *;generalize vars[i]=x at *
     cases nb
     ·have HF:=hide (uh HN ((uh HOB).trans rfl))
      clear HN HY HOB HC2;go_wp2_with fail;refine(uh Aw).mono ?_;rintro e w6 ⟨rfl,hb6⟩;have HB:=hide (uh Ak _ (uh HV1 _ (uh HV2 _ _ (uh Rk) hb6)));clear hb6;go_wp2;go_ret;exact⟨qo (uh HF).symm,uh HB⟩
     by_cases hp:pl<(i:Int)
     ·have f9:decide (pl<(i:Int))=true:=jf hp
      have HF:=hide (uh HN ((uh HOB).trans (by rw[f9];rfl)));clear HN HY HOB;go_wp2_with fail;refine(uh Aw).mono ?_;rintro e w6 ⟨rfl,hb6⟩;have hx6:=uh HV2 _ _ (uh Rk) hb6;have Vm:=hide (uh HC2 _ hx6);have HB:=hide (uh Ak _ (uh HV1 _ hx6));clear hb6 hx6;go_wp2_with fail;refine(uh Vm).mono ?_;rintro e w7 ⟨rfl,h9⟩;obtain rfl:=h9.symm;clear h9;go_wp2;go_ret;exact⟨qo (uh HF).symm,uh HB⟩
     ·have f9:decide (pl<(i:Int))=false:=iw hp
      have Ls:=hide (uh HY ((uh HOB).trans (by rw[f9];rfl)));clear HN HY HOB;go_wp2_with fail;refine(uh Aw).mono ?_;rintro e w6 ⟨rfl,hb6⟩;have hx6:=uh HV2 _ _ (uh Rk) hb6;have Vm:=hide (uh HC2 _ hx6);have HB:=hide hx6;clear hb6 hx6;go_wp2_with fail;refine(uh Vm).mono ?_;rintro e w7 ⟨rfl,h9⟩;obtain rfl:=h9.symm;clear h9;go_wp2
      go_roundg (vars.length-(i+1))
      case measure=>have:=uh HG;omega
      case rel=>exact⟨i+1,by omega,rfl,by go_num,uh Ls,uh HB⟩
    ·have hn9:decide ((i:Int)<(vars.length:Int))=false:=iw (by omega)
     have HR4:=hide (Wj (uh HR3) (by rw[xw];exact fun j hj=>by rw[uh Cc j (by have:=uw.1 hj;omega)];rfl));have Bl:=hide (uh HV1 _ (uh Rk));clear HR3 Cc HG HVP HVX HV1 HV2 HV5;have hxA:BX (wq.alloc (.cells #[] 54)).drew:=uh Gl _ _ (uh Bl) ((gy _ _).alloc (gq _) _).drew;have HXA:=hide hxA;have hz9:=uh HX5 _ (uh Bl);have Ue:Hid (jm Gh (wq.alloc (.cells #[] 54)).drew (w.heap.size+2) (.slice (some ⟨wq.heap.size,0,none⟩) 0 0) []):=(jm.start wq (w.heap.size+2) hz9).below (gy _ _).drew;have Xj:=hide (fun w' (h:BX w')=>((uh HCI).stays (uh Ak _ h)).ins);have HOU:=hide (fun w' (h:BX w')=>((uh HCI).stays (uh Ak _ h)).ak);have hsm:=(uh HCI).sum;have hzA:w.heap.size+2<=(wq.alloc (.cells #[] 54)).drew.heap.size:=uh HX5 _ hxA;clear hxA;go_wp2_with fail
     go_region_held3 (fun w'=>w'.cell? ⟨w.heap.size+1,1,none⟩=some (.slice b1 k.ins.length c1)∧w'.cell? ⟨w.heap.size+1,2,none⟩=some (.slice b2 k.ak.length c2)) (go_keep) (first|(refine I7 Gh aqx _ rfl _ _ rfl (w.heap.size+2) wq.heap.size 0 [] rfl (uh Ue) _ rfl k.ins (uh Xj _ (uh HXA)) (by simp[Gh];omega) hzA ?_;intro g1 cap1 w7 ho1 hg1;have anm:=hide (uh HX3 _ _ _ _ (uh HXA) (uh Ue) hg1);rw[Gu,A8,Bh] at ho1;have Xh:=hide ho1;obtain⟨_,a1,a2,_⟩:=uh Js _ (uh anm);clear ho1 hg1 Ue;have hz7:=uh HX5 _ (uh anm);simp only[A8,Bh])|(refine I7 Gh aqx _ rfl _ _ rfl (w.heap.size+2) g1 cap1 k.ins rfl (uh Xh) _ rfl k.ak (uh HOU _ (uh anm)) (by simp[Gh];omega) hz7 ?_;intro g2 cap2 w8 ho2 hg2;have ay4:=hide (uh HX3 _ _ _ _ (uh anm) (uh Xh) hg2);have HO8:=hide ho2;obtain⟨_,a3,a4,_⟩:=uh Js _ (uh ay4);clear ho2 hg2 Xh))
     clear Xj HOU HXA a1 a2 a3 a4 hz7 hzA z0 z1 z2 z3 z4 z5 z6 z7 anm;have HSL:=hide ((uh HO8).at (R:=fun _ _ cs (x:jw)=>cs=Gh.f x) (fun x _=>rfl) (by rw[je];simp[Gh];omega));have HSN:Hid ((k.ins++k.ak).length=k.ins.length+k.ak.length):=je;obtain⟨BT,hBT⟩:∃BT:bf->Prop,∀w',BT w'↔Below w8.heap.size w8 w':=⟨_,fun _=>Iff.rfl⟩;have HT1:Hid (∀w',BT w'->BX w'):=fun w' h=>uh Gl _ _ (uh ay4) ((hBT _).1 h)
     have HT2:Hid (∀w1 w2,BT w1->Below w1.heap.size w1 w2->BT w2):=fun w1 w2 h h2=>(hBT _).2 (((hBT _).1 h).trans (h2.mono ((hBT _).1 h).size))
     have HT0:Hid (BT w8):=(hBT _).2 (gy _ _)
     have HTX:Hid (∀i (hi:i<(k.ins++k.ak).length) w',BT w'->w'.cell? ⟨g2,i*2,none⟩=some (.string (k.ins++k.ak)[i].name)∧w'.cell? ⟨g2,i*2+1,none⟩=some (.int .i64 (k.ins++k.ak)[i].type)):=fun i hi w' h'=>by
      obtain⟨_,_,Jb,_,_,F5⟩:=uh HSL;simp only[qw] at Jb;obtain⟨Jb,_⟩:=Jb;obtain⟨b,o,cs,Fv,_,hb,_,hc,rfl⟩:=F5 i hi;rw[←Jb] at Fv;simp only[uo,Addr.mk.injEq] at Fv;obtain⟨rfl,rfl,_⟩:=Fv;have h0:=hc 0 (by simp[Gh]);have h1:=hc 1 (by simp[Gh]);have e0:0+i*Gh.sz+0=i*2:=by show 0+i*2+0=i*2;omega
      have e1:0+i*Gh.sz+1=i*2+1:=by show 0+i*2+1=i*2+1;omega
      rw[e0] at h0;rw[e1] at h1;exact⟨(((hBT _).1 h').cell (p:=⟨g2,_,none⟩) hb).trans h0,(((hBT _).1 h').cell (p:=⟨g2,_,none⟩) hb).trans h1⟩
     clear HSL HO8 hBT ay4 Bl Rk hz9;generalize k.ins++k.ak=sl at *;go_wp2
     go_loopg [101] sl.length (fun g iv wr=>∃(i:Nat),i<=sl.length∧g=sl.length-i∧iv=.int .i64 i∧(∀j (hj:j<sl.length),j<i->decide (1<=sl[j].type∧sl[j].type<=2)=true)∧BT wr)
     case atStart=>exact⟨0,jg _,by omega,rfl,fun j _ hj=>absurd hj (yt _),uh HT0⟩
     case round =>
      obtain⟨i,hi,hg,rfl,hno,hbx⟩:=hrel;rename bf=>wt;have HG:=hide hg;have Cc:=hide hno;have L8:=hide hbx;obtain⟨z0,z1,z2,z3,z4,z5,z6,z7⟩:=uh Js _ (uh HT1 _ hbx);clear hg hno hbx
      by_cases hlt:i<sl.length
      ·obtain⟨x0,x1⟩:=uh HTX i hlt _ (uh L8)
       have HN:Hid (¬(1<=sl[i].type∧sl[i].type<=2)->R=false):=fun h=>Tj (uh HR4) (aaw i hlt (iw h))
       have HY:Hid (1<=sl[i].type∧sl[i].type<=2->∀j (hj:j<sl.length),j<i+1->decide (1<=sl[j].type∧sl[j].type<=2)=true):=fun h j hj hji=>by
        by_cases e:j=i
        ·subst e;exact jf h
        ·exact uh Cc j hj (by omega)
       have hl1:(i:Int)<(k.ins.length:Int)+(k.ak.length:Int):=by have:=uh HSN;omega
       have hl2:(i:Int)<((k.ins.length+k.ak.length:Nat):Int):=by have:=uh HSN;omega
       have hl3:i<k.ins.length+k.ak.length:=by have:=uh HSN;omega
       have Wy:=hide (uh HT2 _ _ (uh L8) ((gy _ _).alloc (gq _) (.cells #[.string sl[i].name,.int .i64 sl[i].type] 54)));generalize sl[i].type=ty at *;generalize sl[i].name=sn at *
       by_cases h1:ty<1
       ·have f9:decide (ty<1)=true:=jf h1
        have HF:=hide (uh HN (by omega));clear HN HY;go_wp2;go_ret;exact⟨qo (uh HF).symm,uh Ak _ (uh HT1 _ (uh Wy))⟩
       have f9:decide (ty<1)=false:=iw h1
       by_cases h2:2<ty
       ·have f8:decide (2<ty)=true:=jf h2
        have HF:=hide (uh HN (by omega));clear HN HY;go_wp2;go_ret;exact⟨qo (uh HF).symm,uh Ak _ (uh HT1 _ (uh Wy))⟩
       have f8:decide (2<ty)=false:=iw h2;have Ls:=hide (uh HY (by omega));clear HN HY;go_wp2
       go_roundg (sl.length-(i+1))
       case measure=>have:=uh HG;omega
       case rel=>exact⟨i+1,by omega,rfl,by go_num,uh Ls,uh Wy⟩
      ·have hn8:decide ((i:Int)<(k.ins.length:Int)+(k.ak.length:Int))=false:=iw (by have:=uh HSN;omega)
       have hn7:¬(i<k.ins.length+k.ak.length):=by have:=uh HSN;omega
       have Xk:=hide (Wj (uh HR4) (Yg (fun j hj=>uh Cc j hj (by omega))));have Hf:=hide (uh HT1 _ (uh L8));clear HR4 Cc HG HTX HT1 HT2 HT0 L8
       have HMX:Hid (∀i (hi:i<k.eu.length),∃b o,b4=some ⟨b,o,none⟩∧∀w',BX w'->w'.cell? ⟨b,o+i,none⟩=some (.int .i64 k.eu[i])):=fun i hi=>by
        obtain⟨_,_,Jb,_,_,F5⟩:=(uh HCI).eu;simp only[qw] at Jb;obtain⟨rfl,_,rfl⟩:=Jb;obtain⟨b,o,cs,rfl,_,hb,_,hc,⟨rfl,_⟩⟩:=F5 i hi;refine⟨b,o,rfl,fun w' h'=>?_⟩;rw[(uh Ak _ h').cell (p:=⟨b,_,none⟩) hb];have h0:=hc 0 (by simp);rw[jr,jh] at h0;exact h0
       have Og:Hid (∀i (hi:i<k.au.length),∃b o,b5=some ⟨b,o,none⟩∧∀w',BX w'->w'.cell? ⟨b,o+i,none⟩=some (.int .i64 k.au[i])):=fun i hi=>by
        obtain⟨_,_,Jb,_,_,F5⟩:=(uh HCI).au;simp only[qw] at Jb;obtain⟨rfl,_,rfl⟩:=Jb;obtain⟨b,o,cs,rfl,_,hb,_,hc,⟨rfl,_⟩⟩:=F5 i hi;refine⟨b,o,rfl,fun w' h'=>?_⟩;rw[(uh Ak _ h').cell (p:=⟨b,_,none⟩) hb];have h0:=hc 0 (by simp);rw[jr,jh] at h0;exact h0
       go_wp2
       go_loopg [117] k.eu.length (fun g iv wr=>∃(i:Nat),i<=k.eu.length∧g=k.eu.length-i∧iv=.int .i64 i∧(∀j (hj:j<k.eu.length),j<i->Xc k.eu[j]=true)∧BX wr)
       case atStart=>exact⟨0,jg _,by omega,rfl,fun j _ hj=>absurd hj (yt _),uh Hf⟩
       case round =>
        obtain⟨i,hi,hg,rfl,hno,hbx⟩:=hrel;rename bf=>wt;have HG:=hide hg;have Cc:=hide hno;have L8:=hide hbx;clear hg hno hbx z0 z1 z2 z3 z4 z5 z6 z7;obtain⟨z0,z1,z2,z3,z4,z5,z6,z7⟩:=uh Js _ (uh L8)
        by_cases hlt:i<k.eu.length
        ·obtain⟨b,o,Fv,hcx⟩:=uh HMX i hlt
         have x0:=hcx _ (uh L8);have HN:Hid (Xc k.eu[i]=false->R=false):=fun h=>Tj (uh Xk) (aaw i hlt h)
         have HY:Hid (Xc k.eu[i]=true->∀j (hj:j<k.eu.length),j<i+1->Xc k.eu[j]=true):=fun h j hj hji=>by
          by_cases e:j=i
          ·subst e;exact h
          ·exact uh Cc j hj (by omega)
         have Aw:=hide (avr k.eu[i] wt);have HM:Hid (Xc k.eu[i]=(k.eu[i] == IntKind.i32.wrap k.eu[i])):=rfl;have hlt':(i:Int)<(k.eu.length:Int):=by omega
         clear hcx;generalize Xc k.eu[i]=mb at *;generalize k.eu[i]=mv at *;generalize IntKind.i32.wrap mv=wv at *;subst Fv;have W9:=hide (uh Ak _ (uh L8))
         by_cases hq:mv=wv
         ·have f9:(mv != wv)=false:=by simp[hq]
          have Ls:=hide (uh HY ((uh HM).trans (by simp[hq])));clear HN HY HM hq;go_wp2_with fail;refine(uh Aw).mono ?_;rintro e w9 ⟨rfl,h9⟩;obtain rfl:=h9.symm;clear h9;go_wp2
          go_roundg (k.eu.length-(i+1))
          case measure=>have:=uh HG;omega
          case rel=>exact⟨i+1,by omega,rfl,by go_num,uh Ls,uh L8⟩
         ·have f9:(mv != wv)=true:=by simp[hq]
          have HF:=hide (uh HN ((uh HM).trans (by simp[hq])));clear HN HY HM hq;go_wp2_with fail;refine(uh Aw).mono ?_;rintro e w9 ⟨rfl,h9⟩;obtain rfl:=h9.symm;clear h9;go_wp2;go_ret;exact⟨qo (uh HF).symm,uh W9⟩
        ·have hn8:decide ((i:Int)<(k.eu.length:Int))=false:=iw (by omega)
         have HR6:=hide (Wj (uh Xk) (Yg (fun j hj=>uh Cc j hj (by omega))));clear Xk Cc HG HMX Hf;go_wp2
         go_loopg [129] k.au.length (fun g iv wr=>∃(i:Nat),i<=k.au.length∧g=k.au.length-i∧iv=.int .i64 i∧(∀j (hj:j<k.au.length),j<i->decide (0<=k.au[j]∧k.au[j]<(at':Int))=true)∧wr=wt)
         case atStart=>exact⟨0,jg _,by omega,rfl,fun j _ hj=>absurd hj (yt _),rfl⟩
         case round =>
          obtain⟨i,hi,hg,rfl,hno,hw⟩:=hrel;obtain rfl:=hw.symm;clear hw;have HG:=hide hg;have Cc:=hide hno;clear hg hno;have W9:=hide (uh Ak _ (uh L8))
          by_cases hlt:i<k.au.length
          ·obtain⟨b,o,Fv,hcx⟩:=uh Og i hlt
           have x0:=hcx _ (uh L8);have HN:Hid (¬(0<=k.au[i]∧k.au[i]<(at':Int))->R=false):=fun h=>Tj (uh HR6) (aaw i hlt (iw h))
           have HY:Hid (0<=k.au[i]∧k.au[i]<(at':Int)->∀j (hj:j<k.au.length),j<i+1->decide (0<=k.au[j]∧k.au[j]<(at':Int))=true):=fun h j hj hji=>by
            by_cases e:j=i
            ·subst e;exact jf h
            ·exact uh Cc j hj (by omega)
           have hlt':(i:Int)<(k.au.length:Int):=by omega
           clear hcx;generalize k.au[i]=gv at *;subst Fv
           by_cases h1:gv<0
           ·have f9:decide (gv<0)=true:=jf h1
            have HF:=hide (uh HN (by omega));clear HN HY;go_wp2;go_ret;exact⟨qo (uh HF).symm,uh W9⟩
           have f9:decide (gv<0)=false:=iw h1
           by_cases h2:(at':Int)<=gv
           ·have f8:decide ((at':Int)<=gv)=true:=jf h2
            have HF:=hide (uh HN (by omega));clear HN HY;go_wp2;go_ret;exact⟨qo (uh HF).symm,uh W9⟩
           have f8:decide ((at':Int)<=gv)=false:=iw h2;have Ls:=hide (uh HY (by omega));clear HN HY;go_wp2
           go_roundg (k.au.length-(i+1))
           case measure=>have:=uh HG;omega
           case rel=>exact⟨i+1,by omega,rfl,by go_num,uh Ls,rfl⟩
          ·have hn6:decide ((i:Int)<(k.au.length:Int))=false:=iw (by omega)
           have HR7:=hide (Wj (uh HR6) (Yg (fun j hj=>uh Cc j hj (by omega))))
           have HIO:Hid (∀j (hj:j<k.au.length),0<=k.au[j]∧k.au[j]<(ks.length:Int)):=fun j hj=>by
            have:=xq (uh Cc j hj (by omega));omega
           clear HR6 Cc HG Og
           have HSX:Hid (∀i (hi:i<k.body.length),∃b o o1 n1 p1 o2 n2 p2 o3 n3 p3,b6=some ⟨b,o,none⟩∧∀w',BX w'->(w'.cell? ⟨b,o+i*6,none⟩=some (.int .i64 k.body[i].kind)∧w'.cell? ⟨b,o+i*6+1,none⟩=some (.string k.body[i].name)∧w'.cell? ⟨b,o+i*6+2,none⟩=some (.int .i64 k.body[i].at_)∧w'.cell? ⟨b,o+i*6+3,none⟩=some (.slice o1 n1 p1)∧w'.cell? ⟨b,o+i*6+4,none⟩=some (.slice o2 n2 p2)∧w'.cell? ⟨b,o+i*6+5,none⟩=some (.slice o3 n3 p3))∧iy 1 16 wz 0 w' (.slice o1 n1 p1) k.body[i].ak∧iy 3 32 Gp 0 w' (.slice o2 n2 p2) k.body[i].code∧iy 1 24 Io 0 w' (.slice o3 n3 p3) k.body[i].args):=fun i hi=>by
            obtain⟨_,_,Jb,_,_,F5⟩:=(uh HCI).body;simp only[qw] at Jb;obtain⟨rfl,_,rfl⟩:=Jb;obtain⟨b,o,cs,rfl,_,hb,_,hc,⟨u1,u2,u3,rfl,_,_,_,s1,s2,s3⟩⟩:=F5 i hi;obtain⟨o1,p1,rfl⟩:=s1.shape;obtain⟨o2,p2,rfl⟩:=s2.shape;obtain⟨o3,p3,rfl⟩:=s3.shape;refine⟨b,o,o1,k.body[i].ak.length,p1,o2,k.body[i].code.length,p2,o3,k.body[i].args.length,p3,rfl,fun w' h'=>?_⟩;have hB:=uh Ak _ h'
            have hc':∀t (ht:t<6),w'.cell? ⟨b,o+i*6+t,none⟩=some (([.int .i64 k.body[i].kind,.string k.body[i].name,.int .i64 k.body[i].at_,.slice o1 k.body[i].ak.length p1,.slice o2 k.body[i].code.length p2,.slice o3 k.body[i].args.length p3]:List Value)[t]):=fun t ht=>by
             rw[hB.cell (p:=⟨b,_,none⟩) hb];exact hc t ht
            exact⟨⟨hc' 0 (by omega),hc' 1 (by omega),hc' 2 (by omega),hc' 3 (by omega),hc' 4 (by omega),hc' 5 (by omega)⟩,s1.stays zo hB,s2.stays Ag hB,s3.stays I9 hB⟩
           go_wp2
           go_loopg [144] k.body.length (fun g iv wr=>∃(i:Nat),i<=k.body.length∧g=k.body.length-i∧iv=.int .i64 i∧(∀j (hj:j<k.body.length),j<i->x9 ks k k.body[j]=true)∧BX wr)
           case atStart=>exact⟨0,jg _,by omega,rfl,fun j _ hj=>absurd hj (yt _),uh L8⟩
           case round =>
            obtain⟨i,hi,hg,rfl,hno,hbx⟩:=hrel;rename bf=>wu;have HG:=hide hg;have Cc:=hide hno;have Qb:=hide hbx;clear hg hno hbx z0 z1 z2 z3 z4 z5 z6 z7;obtain⟨z0,z1,z2,z3,z4,z5,z6,z7⟩:=uh Js _ (uh Qb)
            by_cases hlt:i<k.body.length
            ·obtain⟨b,o,o1,n1,p1,o2,n2,p2,o3,n3,p3,Fv,hcx⟩:=uh HSX i hlt
             obtain⟨⟨x0,x1,x2,x3,x4,x5⟩,_⟩:=hcx _ (uh Qb);have HN:Hid (x9 ks k k.body[i]=false->R=false):=fun h=>Tj (uh HR7) (aaw i hlt h)
             have HY:Hid (x9 ks k k.body[i]=true->∀j (hj:j<k.body.length),j<i+1->x9 ks k k.body[j]=true):=fun h j hj hji=>by
              by_cases e:j=i
              ·subst e;exact h
              ·exact uh Cc j hj (by omega)
             have O4:=uh Gl _ _ (uh Qb) ((gy _ wu).alloc (gq _) (.cells #[.int .i64 k.body[i].kind,.string k.body[i].name,.int .i64 k.body[i].at_,.slice o1 n1 p1,.slice o2 n2 p2,.slice o3 n3 p3] 60));obtain⟨_,s1,s2,s3⟩:=hcx _ O4;have Aw:=hide (asq ks k k.body[i] _ _ _ _ _ _ _ _ _ _ _ ((uh HMM).stays Ei (uh Ak _ O4)) ((uh HCI).stays (uh Ak _ O4)) s1 s2 s3 (uh HIO));have Wy:=hide O4;have hlt':(i:Int)<(k.body.length:Int):=by omega
             clear hcx s1 s2 s3 O4;generalize x9 ks k k.body[i]=sb at *;generalize k.body[i].kind=kd at *;generalize k.body[i].name=sn at *;generalize k.body[i].at_=sa at *;subst Fv;obtain⟨k0,k1,k2,k3,k4,k5,k6,k7⟩:=uh Js _ (uh Wy)
             cases sb
             ·have HF:=hide (uh HN rfl)
              clear HN HY;go_wp2_with fail;refine(uh Aw).mono ?_;rintro e w9 ⟨rfl,yu⟩;have W9:=hide (uh Ak _ (uh Gl _ _ (uh Wy) yu));clear yu;go_wp2;go_ret;exact⟨qo (uh HF).symm,uh W9⟩
             ·have Ls:=hide (uh HY rfl)
              clear HN HY;go_wp2_with fail;refine(uh Aw).mono ?_;rintro e w9 ⟨rfl,yu⟩;have W9:=hide (uh Gl _ _ (uh Wy) yu);clear yu;go_wp2
              go_roundg (k.body.length-(i+1))
              case measure=>have:=uh HG;omega
              case rel=>exact⟨i+1,by omega,rfl,by go_num,uh Ls,uh W9⟩
            ·have Gm:decide ((i:Int)<(k.body.length:Int))=false:=iw (by omega)
             have HR8:=hide (Wj (uh HR7) (Yg (fun j hj=>uh Cc j hj (by omega))));have Aw:=hide (ap5 (k.body.length+1) k.body _ 0 wu ((uh HCI).stays (uh Ak _ (uh Qb))).body (Ri _) (Int.le_refl _) (by omega));have HW9:=hide (uh Ak _ (uh Qb));clear HR7 Cc HG HIO;generalize hnf:Eu (k.body.length+1) (jl k.body) 0=nf at *;clear hnf
             cases nf
             ·have HF:=hide (Tj (uh HR8) rfl)
              clear HR8;go_wp2_with fail;refine(uh Aw).mono ?_;rintro e w9 ⟨rfl,h9⟩;obtain rfl:=h9.symm;clear h9;go_wp2;go_ret;exact⟨qo (uh HF).symm,uh HW9⟩
             have HR9:=hide (Wj (uh HR8) rfl);clear HR8;go_wp2_with fail;refine(uh Aw).mono ?_;rintro e w9 ⟨rfl,h9⟩;obtain rfl:=h9.symm;clear h9 Aw;go_wp2
             go_loopg [161] k.body.length (fun g iv wr=>∃(i:Nat),i<=k.body.length∧g=k.body.length-i∧iv=.int .i64 i∧(∀j,j<i->Um k.body j=false)∧BX wr)
             case atStart=>exact⟨0,jg _,by omega,rfl,fun j hj=>absurd hj (yt _),uh Qb⟩
             case round =>
              obtain⟨i,hi,hg,rfl,hno,hbx⟩:=hrel;rename bf=>wv;have HG:=hide hg;have Cc:=hide hno;have HBV:=hide hbx;clear hg hno hbx z0 z1 z2 z3 z4 z5 z6 z7;obtain⟨z0,z1,z2,z3,z4,z5,z6,z7⟩:=uh Js _ (uh HBV)
              by_cases hlt:i<k.body.length
              case neg =>
               have hn4:decide ((i:Int)<(k.body.length:Int))=false:=iw (by omega);have HF:Hid (R=true):=(uh HR9).trans (alv (fun j hj=>uh Cc j (by omega)));have W9:=hide (uh Ak _ (uh HBV));go_wp2;go_ret;exact⟨qo (uh HF).symm,uh W9⟩
              obtain⟨b,o,o1,n1,p1,o2,n2,p2,o3,n3,p3,Fv,hcx⟩:=uh HSX i hlt;obtain⟨⟨x0,x1,x2,x3,x4,x5⟩,_⟩:=hcx _ (uh HBV);have HN:Hid (Um k.body i=true->R=false):=fun h=>(uh HR9).trans (ah1 i hlt h)
              have HY:Hid (Um k.body i=false->∀j,j<i+1->Um k.body j=false):=fun h j hji=>by
               by_cases e:j=i
               ·subst e;exact h
               ·exact uh Cc j (by omega)
              have HIB:=hide (ay1 k.body i hlt);have HPE:=hide (ay2 (jl k.body) i);have hkl:(jl k.body).length=k.body.length:=by unfold jl;simp
              rw[hkl] at HPE;clear hkl;have hlt':(i:Int)<(k.body.length:Int):=by omega
              clear hcx;generalize k.body[i].kind=kd at *;generalize k.body[i].name=sn at *;generalize k.body[i].at_=sa at *;have O4:=uh Gl _ _ (uh HBV) ((gy _ wv).alloc (gq _) (.cells #[.int .i64 kd,.string sn,.int .i64 sa,.slice o1 n1 p1,.slice o2 n2 p2,.slice o3 n3 p3] 60));have Aw:=hide (aeo k.body _ i _ ((uh HCI).stays (uh Ak _ O4)).body hi);have Wy:=hide O4;have hBS:=hide (og wv #[.int .i64 kd,.string sn,.int .i64 sa,.slice o1 n1 p1,.slice o2 n2 p2,.slice o3 n3 p3] 60);clear O4;subst Fv
              by_cases h4:kd=4
              case neg =>
               have y4:(kd == 4)=false:=by simp[h4]
               have Ls:=hide (uh HY ((uh HIB).trans (by rw[y4,Bc])));clear HN HY HIB Aw h4;go_wp2
               go_roundg (k.body.length-(i+1))
               case measure=>have:=uh HG;omega
               case rel=>exact⟨i+1,by omega,rfl,by go_num,uh Ls,uh Wy⟩
              have y4:(kd == 4)=true:=by simp[h4]
              rw[y4,Ar] at HIB;obtain⟨BS,ah2⟩:∃BS:bf->Prop,∀w',BS w'↔Below (wv.alloc (.cells #[.int .i64 kd,.string sn,.int .i64 sa,.slice o1 n1 p1,.slice o2 n2 p2,.slice o3 n3 p3] 60)).heap.size (wv.alloc (.cells #[.int .i64 kd,.string sn,.int .i64 sa,.slice o1 n1 p1,.slice o2 n2 p2,.slice o3 n3 p3] 60)) w':=⟨_,fun _=>Iff.rfl⟩;have Uf:Hid (∀w',BS w'->BX w'):=fun w' h=>uh Gl _ _ (uh Wy) ((ah2 _).1 h)
              have HS2:Hid (∀w1 w2,BS w1->Below w1.heap.size w1 w2->BS w2):=fun w1 w2 h h2=>(ah2 _).2 (((ah2 _).1 h).trans (h2.mono ((ah2 _).1 h).size))
              have Vo:Hid (∀w',BS w'->w'.cell? ⟨wv.heap.size,1,none⟩=some (.string sn)):=fun w' h=>((uh hBS).below ((ah2 _).1 h) (uh hBS).lt).cell (i:=1) (v:=.string sn) rfl
              have HS0:Hid (BS (wv.alloc (.cells #[.int .i64 kd,.string sn,.int .i64 sa,.slice o1 n1 p1,.slice o2 n2 p2,.slice o3 n3 p3] 60))):=(ah2 _).2 (gy _ _);obtain⟨k0,k1,k2,k3,k4,k5,k6,k7⟩:=uh Js _ (uh Wy);clear h4 ah2 hBS;generalize uj (jl k.body) i=pp at *;obtain⟨po,pe⟩:=pp;simp only at HIB HPE Aw;have hpe:=uh HPE;go_wp2_with fail;refine(uh Aw).mono ?_;rintro e w9 ⟨rfl,h9⟩;obtain rfl:=h9.symm;clear h9 Aw;go_wp2
              go_loopg [22] (pe.toNat-i) (fun g jv wr=>∃(j:Nat),i<=j∧j<=k.body.length∧g=pe.toNat-j∧jv=.int .i64 j∧(∀q,i<=q->q<j->(match k.body[q]? with|some t=>Wv t sn|none=>false)=false)∧BS wr)
              case atStart=>exact⟨i,gq _,hi,rfl,rfl,fun q h1 h2=>absurd h2 (by omega),uh HS0⟩
              case round =>
               obtain⟨j,hij,hjb,hg,rfl,hno,hbs⟩:=hrel;rename bf=>wj;have HGJ:=hide hg;have HNJ:=hide hno;have HBJ:=hide hbs;clear hg hno hbs k0 k1 k2 k3 k4 k5 k6 k7 z0 z1 z2 z3 z4 z5 z6 z7 x0 x1 x2 x3 x4 x5;obtain⟨z0,z1,z2,z3,z4,z5,z6,z7⟩:=uh Js _ (uh Uf _ (uh HBJ));have y1:=uh Vo _ (uh HBJ)
               by_cases hjp:(j:Int)<pe
               case neg =>
                have f9:decide ((j:Int)<pe)=false:=iw hjp
                have Ls:=hide (uh HY ((uh HIB).trans (a7k (fun q hq=>by
                 by_cases h1:i<=q
                 ·rw[jf h1,Ar];exact uh HNJ q h1 (by omega)
                 ·rw[iw h1,Bc]))))
                have W9:=hide (uh Uf _ (uh HBJ));clear HN HY HIB;go_wp2
                go_roundg (k.body.length-(i+1))
                case measure=>have:=uh HG;omega
                case rel=>exact⟨i+1,by omega,rfl,by go_num,uh Ls,uh W9⟩
               have f9:decide ((j:Int)<pe)=true:=jf hjp;have hjl:j<k.body.length:=by omega
               obtain⟨b',o',t1,m1,r1,t2,m2,r2,t3,m3,r3,a7l,hcx⟩:=uh HSX j hjl;simp only[uo,Addr.mk.injEq] at a7l;obtain⟨rfl,rfl,_⟩:=a7l;obtain⟨⟨x0,x1,x2,x3,x4,x5⟩,_⟩:=hcx _ (uh Uf _ (uh HBJ));have ay5:Hid (Wv k.body[j] sn=true->R=false):=fun h=>uh HN ((uh HIB).trans (a4f j (by omega) (by rw[jf hij,Ar,jy hjl];exact h)))
               have ay6:Hid (Wv k.body[j] sn=false->∀q,i<=q->q<j+1->(match k.body[q]? with|some t=>Wv t sn|none=>false)=false):=fun h q h1 h2=>by
                by_cases e:q=j
                ·subst e;rw[jy hjl];exact h
                ·exact uh HNJ q h1 (by omega)
               have hdr:=uh HS2 _ _ (uh HBJ) (gy _ wj).drew;have a7m:=hide (ap6 k.body[j] sn _ _ _ wj.drew (hcx _ (uh Uf _ hdr)).2.1 ⟨t2,m2,r2,rfl⟩ ⟨t3,m3,r3,rfl⟩);have Kr:=hide (fun w' h=>(hcx w' (uh Uf w' h)).1);have bfg:(j:Int)<(k.body.length:Int):=by omega
               clear hcx;generalize Wv k.body[j] sn=wb at *;generalize k.body[j].kind=jk at *;generalize k.body[j].name=jn at *;generalize k.body[j].at_=ja at *
               have HCW:Hid (Calls Tryz.prog 86 #[.agg #[.int .i64 jk,.string jn,.int .i64 ja,.slice t1 m1 r1,.slice t2 m2 r2,.slice t3 m3 r3],.string sn] wj.drew fun e w9=>e=.returned (.bool wb)∧BS w9∧w9.cell? ⟨w.heap.size+1,6,none⟩=some (.slice (some ⟨b,o,none⟩) k.body.length c6)∧w9.cell? ⟨b,o+j*6,none⟩=some (.int .i64 jk)∧w9.cell? ⟨b,o+j*6+1,none⟩=some (.string jn)∧w9.cell? ⟨b,o+j*6+2,none⟩=some (.int .i64 ja)∧w9.cell? ⟨b,o+j*6+3,none⟩=some (.slice t1 m1 r1)∧w9.cell? ⟨b,o+j*6+4,none⟩=some (.slice t2 m2 r2)∧w9.cell? ⟨b,o+j*6+5,none⟩=some (.slice t3 m3 r3)∧w9.cell? ⟨wv.heap.size,1,none⟩=some (.string sn)):=by
                refine(uh a7m).mono ?_;rintro e w9 ⟨rfl,yu⟩;have h9:=uh HS2 _ _ hdr yu;obtain⟨c0,c1',c2',c3',c4',c5'⟩:=uh Kr w9 h9;obtain⟨_,_,_,_,_,_,_,q7⟩:=uh Js _ (uh Uf _ h9);have hs9:=uh Vo _ h9;exact⟨rfl,h9,q7,c0,c1',c2',c3',c4',c5',hs9⟩
               clear a7m Kr hdr;generalize wv.heap.size=vb at *
               cases wb
               ·have Ls:=hide (uh ay6 rfl)
                clear ay5 ay6 HN HY;go_wp2_with fail
                go_region_held3 (fun w'=>w'.cell? ⟨w.heap.size+1,6,none⟩=some (.slice (some ⟨b,o,none⟩) k.body.length c6)∧w'.cell? ⟨b,o+j*6,none⟩=some (.int .i64 jk)∧w'.cell? ⟨b,o+j*6+1,none⟩=some (.string jn)∧w'.cell? ⟨b,o+j*6+2,none⟩=some (.int .i64 ja)∧w'.cell? ⟨b,o+j*6+3,none⟩=some (.slice t1 m1 r1)∧w'.cell? ⟨b,o+j*6+4,none⟩=some (.slice t2 m2 r2)∧w'.cell? ⟨b,o+j*6+5,none⟩=some (.slice t3 m3 r3)∧w'.cell? ⟨vb,1,none⟩=some (.string sn)) (go_keep) (first|(go_at_call 86;refine(uh HCW).mono ?_;rintro e w9 ⟨rfl,hB9,l0,l1,l2,l3,l4,l5,l6,l7⟩))
                have W9:=hide hB9;go_wp2
                go_roundg (pe.toNat-(j+1))
                case measure=>have:=uh HGJ;omega
                case rel=>exact⟨j+1,by omega,by omega,rfl,by go_num,uh Ls,uh W9⟩
               ·have HF:=hide (uh ay5 rfl)
                clear ay5 ay6 HN HY;go_wp2_with fail
                go_region_held3 (fun w'=>w'.cell? ⟨w.heap.size+1,6,none⟩=some (.slice (some ⟨b,o,none⟩) k.body.length c6)∧w'.cell? ⟨b,o+j*6,none⟩=some (.int .i64 jk)∧w'.cell? ⟨b,o+j*6+1,none⟩=some (.string jn)∧w'.cell? ⟨b,o+j*6+2,none⟩=some (.int .i64 ja)∧w'.cell? ⟨b,o+j*6+3,none⟩=some (.slice t1 m1 r1)∧w'.cell? ⟨b,o+j*6+4,none⟩=some (.slice t2 m2 r2)∧w'.cell? ⟨b,o+j*6+5,none⟩=some (.slice t3 m3 r3)∧w'.cell? ⟨vb,1,none⟩=some (.string sn)) (go_keep) (first|(go_at_call 86;refine(uh HCW).mono ?_;rintro e w9 ⟨rfl,hB9,l0,l1,l2,l3,l4,l5,l6,l7⟩))
                have W9:=hide (uh Ak _ (uh Uf _ hB9));go_wp2;go_ret;exact⟨qo (uh HF).symm,uh W9⟩
end Go.Proofs.YtfeejeflmcapoaaGreatDoor
