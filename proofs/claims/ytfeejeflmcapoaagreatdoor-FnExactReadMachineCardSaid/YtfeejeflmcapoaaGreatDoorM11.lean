import Derived.Test.YtfeejeflmcapoaaGreatDoorM9
set_option linter.unusedSimpArgs false
set_option linter.unusedVariables false
set_option maxHeartbeats 4000000
namespace Go.Proofs.YtfeejeflmcapoaaGreatDoor
open Go.RowKit
def L6 (ks:List dw):Nat->List Int
 | 0=>[]
 | k+1=>L6 ks k++[match ks[k]? with|some x=>sumF (x.body.length+1) (costs x.au (L6 ks k) x.body)|none=>0]
theorem Px (ks:List dw) (k:Nat):(L6 ks k).length=k:=by
 induction k with
 | zero=>rfl
 | succ k ih=>rw[L6,je,ih];rfl
theorem avl (ks:List dw) (k:Nat):∀x,x∈L6 ks k->0<=x∧x<=400001:=by
 induction k with
 | zero=>intro x h;simp[L6] at h
 | succ k ih =>
  intro x h;rw[L6,Ec,yj] at h;rcases h with h|rfl
  ·exact ih x h
  ·cases ks[k]? with
   | none=>simp
   | some y=>exact akf _ _ (ahy _ _ _ ih)
def ang (ks:List dw):Prop:=∀i (hi:i<ks.length),Eu (ks[i].body.length+1) (jl ks[i].body) 0=true∧∀s,s∈ks[i].body->s.kind=3->0<=s.at_∧s.at_<(ks[i].au.length:Int)
theorem ayr (ks:List dw) (h1:aje ks) (h2:ang ks) (i:Nat) (hi:i<ks.length):aqw ks[i].au (L6 ks i) ks[i].body:=fun s hs h3=>by
 obtain⟨e1,e2⟩:=(h2 i hi).2 s hs h3;obtain⟨ia,ha⟩:=H8 e1;have hl:ia<ks[i].au.length:=by omega
 obtain⟨g1,g2⟩:=(h1 i hi).2.2 ia hl;obtain⟨gi,hg⟩:=H8 g1;refine⟨ia,gi,ha,hl,?_,by rw[Px];omega⟩;rw[yw,jy hl];exact hg
set_option maxRecDepth 20000 in
theorem ap2 (ks:List dw) (v:Value) (w:bf) (h1:iy 7 160 Dl 0 w v ks) (hio:aje ks) (Fv:ang ks) (hnn:ks.length<=200) :
  Calls Tryz.prog 54 #[.agg #[v]] w fun e w'=>∃v,e=.returned v∧iy 1 8 J4 0 w' v (L6 ks ks.length)∧Below w.heap.size w w':=by
 obtain⟨b0,c0,rfl⟩:=h1.shape;obtain⟨_,_,hv0,_,_,hx⟩:=h1;simp only[qw] at hv0;obtain⟨rfl,_,rfl⟩:=hv0;have HX:=hide hx;have HCK:=hide (ayr ks hio Fv);have HBO:=hide Fv;clear hx hio Fv;have P0:=hide ((gy w.heap.size w).alloc (gq _) (.cells #[.slice b0 ks.length c0] 24))
 have O0:Hid (Ew ((w.alloc (.cells #[.slice b0 ks.length c0] 24)).alloc (.cells #[] 3)) (w.heap.size+1) (w.heap.size+1) 0 []):=by
  have:=Ew.start (w.alloc (.cells #[.slice b0 ks.length c0] 24)) (w.heap.size+1) (by simp);show Ew _ _ _ _ _;simpa using this
 go_enter Tryz.func54,Tryz.ntmps54;go_wp2
 go_loopg [3,10] ks.length (fun gh wv i wr=>∃(k g cap:Nat),k<=ks.length∧gh=ks.length-k∧i=.int .i64 k∧wv=.slice (some ⟨g,0,none⟩) k cap∧Ew wr (w.heap.size+1) g cap (L6 ks k)∧Below (w.heap.size+1) (w.alloc (.cells #[.slice b0 ks.length c0] 24)) wr)
 case atStart=>exact⟨0,w.heap.size+1,0,jg _,by omega,rfl,rfl,uh O0,(gy _ _).alloc (by simp) _⟩
 case round =>
  obtain⟨k,g,cap,hk,hg,rfl,rfl,hown,ael⟩:=hrel;rename bf=>wN;have HG:=hide hg;have HOW:=hide hown;have Vk:=hide ael;have BN:Hid (Below w.heap.size w wN):=(uh P0).trans (ael.mono (Nat.le_succ _));have hgN:=hown.lt;have hgb:=hown.base;have hNs:w.heap.size+1<=wN.heap.size:=by have:=ael.size;simpa using this
  have HWL:=hide (Px ks k);have HBD:=hide (avl ks k);have HD:=hide (hown.at (fun x hx=>by have:=avl ks k x hx;exact⟨rfl,by omega,by omega⟩) (by rw[Px];omega));clear hg hown ael
  by_cases hlt:k<ks.length
  case neg =>
   have e:k=ks.length:=by omega
   subst e;go_wp2;go_ret;refine⟨_,rfl,?_,uh BN⟩;have:=uh HD;rw[uh HWL] at this;exact this
  obtain⟨b,o,cs,Fv,_,hb,hcs,hc,hR⟩:=uh HX k hlt;subst Fv;have hR:=Ei.stays _ _ _ _ _ (uh BN) hR;have hc:∀j (hj:j<cs.length),wN.cell? ⟨b,o+k*7+j,none⟩=some cs[j]:=fun j hj=>by rw[(uh BN).cell (p:=⟨b,_,none⟩) hb];exact hc j hj
  have Qj:=hide (uh HCK k hlt);have HNE:=hide (uh HBO k hlt).1
  have Og:Hid (L6 ks (k+1)=L6 ks k++[sumF (ks[k].body.length+1) (costs ks[k].au (L6 ks k) ks[k].body)]):=by
   show L6 ks (k+1)=_;rw[L6,jy hlt]
  have hsb:=akf (ks[k].body.length+1) (costs ks[k].au (L6 ks k) ks[k].body) (ahy _ _ _ (uh HBD));generalize ks[k]=nd at *;obtain⟨s,ins,ak,iq,eu,au,body⟩:=nd;obtain⟨v1,v2,v3,v4,v5,v6,rfl,hsn,q1,q2,q3,q4,q5,q6⟩:=hR;simp only at hsn q1 q2 q3 q4 q5 q6 Qj HNE Og hsb;obtain⟨b1,c1,rfl⟩:=q1.shape;obtain⟨b2,c2,rfl⟩:=q2.shape;obtain⟨b3,c3,rfl⟩:=q3.shape;obtain⟨b4,c4,rfl⟩:=q4.shape;obtain⟨b5,c5,rfl⟩:=q5.shape;obtain⟨b6,c6,rfl⟩:=q6.shape;have y0:=hc 0 (by simp);have y1:=hc 1 (by simp);have y2:=hc 2 (by simp);have y3:=hc 3 (by simp);have y4:=hc 4 (by simp);have y5:=hc 5 (by simp);have y6:=hc 6 (by simp);simp only[jr,jh,ny,o8] at y0 y1 y2 y3 y4 y5 y6
  have Yf:Hid (Calls Tryz.prog 87 #[.agg #[.string s,.slice b1 ins.length c1,.slice b2 ak.length c2,.slice b3 iq.length c3,.slice b4 eu.length c4,.slice b5 au.length c5,.slice b6 body.length c6],.slice b6 body.length c6,.slice (some ⟨g,0,none⟩) k cap] (wN.alloc (.cells #[.string s,.slice b1 ins.length c1,.slice b2 ak.length c2,.slice b3 iq.length c3,.slice b4 eu.length c4,.slice b5 au.length c5,.slice b6 body.length c6] 50)) fun e w'=>e=.returned (.int .i64 (sumF (body.length+1) (costs au (L6 ks k) body)))∧Below wN.heap.size wN w'):=by
   have hba:Below wN.heap.size wN (wN.alloc (.cells #[.string s,.slice b1 ins.length c1,.slice b2 ak.length c2,.slice b3 iq.length c3,.slice b4 eu.length c4,.slice b5 au.length c5,.slice b6 body.length c6] 50)):=(gy _ _).alloc (gq _) _;have hk:=(uh HD).stays Fp hba;have h:=ays s au (L6 ks k) b1 b2 b3 b4 b5 b6 (some ⟨g,0,none⟩) ins.length ak.length iq.length eu.length body.length c1 c2 c3 c4 c5 c6 cap (uh HBD) (body.length+1) body _ 0 _ (q6.stays P9 hba) (q5.stays Fp hba) hk (uh Qj) (Ri _) (uh HNE);rw[uh HWL] at h;refine h.mono ?_;rintro e w' ⟨rfl,hb'⟩;exact⟨rfl,hba.trans (hb'.mono (by simp))⟩
  clear q1 q2 q3 q4 q5 q6 hc hcs HD HX Qj HNE HCK HBO;generalize sumF (body.length+1) (costs au (L6 ks k) body)=sm at *;go_wp2_with fail;refine(uh Yf).mono ?_;rintro e wq ⟨rfl,hbq⟩;have hz:=hbq.size;have HQ:=hide ((uh Vk).trans (hbq.mono hNs));have HOQ:=hide ((uh HOW).below hbq);have anh:Hid (Ew (wq.alloc (.cells #[.int .i64 sm] 3)) (w.heap.size+1) g cap (L6 ks k)):=(uh HOQ).below ((gy _ _).alloc (gq _) _);have Wu:Hid (Below (w.heap.size+1) _ (wq.alloc (.cells #[.int .i64 sm] 3))):=(uh HQ).trans ((gy _ _).alloc (by omega) _);have HZ:=hide hz;clear hz hbq Yf y0 y1 y2 y3 y4 y5 y6;go_wp2_with (at_builtin;go_must (refine Tf _ rfl _ _ rfl (w.heap.size+1) g cap (L6 ks k) (by rw[uh HWL];rfl) (uh anh) wq.heap.size sm rfl (by rw[zy _ _ _ _ rfl];rfl) (by rw[uh HWL];omega) (by have:=uh HZ;simp;omega) ?_));intro g' cap' w7 J9 Ti;have B7:=Wh (uh Wu) Ti (by have:=uh HZ;simp;omega) hgb;rw[←uh Og] at J9;have Xh:=hide J9;have Zp:=hide B7;rw[uh HWL];clear J9 Ti B7;go_wp2
  go_roundg (ks.length-(k+1))
  case measure=>have:=uh HG;omega
  case rel=>exact⟨k+1,g',cap',by omega,rfl,by go_num,rfl,uh Xh,uh Zp⟩
def Qk (vars:List dh) (i:Nat):Bool:=match vars[i]? with|some x=>!nameB x||decide (jd vars x<(i:Int))|none=>false
def Xc (v:Int):Bool:=v == IntKind.i32.wrap v
def Um (body:List lu) (i:Nat):Bool:=match body[i]? with
 | none=>false
 | some s=>s.kind == 4&&(List.range (uj (jl body) i).2.toNat).any (fun j=>decide (i<=j)&&(match body[j]? with|some t=>Wv t s.name|none=>false))
def He (ks:List dw) (i:Nat):Bool:=match ks[i]? with
 | none=>false
 | some k=>(nameB k.name&&decide (1<=k.ak.length)&&decide (k.eu.length<=1000)&&decide (k.au.length<=1000)&&decide (k.body.length<=30000))
  && ((List.range i).all (fun j=>!(match ks[j]? with|some y=>y.name.toList == k.name.toList|none=>false))
  && (decide ((varsOf k).length<=1000)
  && ((List.range (varsOf k).length).all (fun j=>!Qk (varsOf k) j)
  && ((k.ins++k.ak).all (fun t=>decide (1<=t.type∧t.type<=2))
  && (k.eu.all Xc
  && (k.au.all (fun g=>decide (0<=g∧g<(i:Int)))
  && (k.body.all (x9 ks k)
  && (Eu (k.body.length+1) (jl k.body) 0
  && (List.range k.body.length).all (fun j=>!Um k.body j)))))))))
def Py (ks:List dw):Bool:=decide (1<=ks.length∧ks.length<=200)&&((List.range ks.length).all (He ks)&&((Iq ks ks.length).all (fun n=>decide (n<=20000))&&(L6 ks ks.length).all (fun n=>decide (n<=400000))))
theorem ayt (ks:List dw) (k:dw) (s:lu) (h:x9 ks k s=true) (h3:s.kind=3):0<=s.at_∧s.at_<(k.au.length:Int):=by
 have hc:Wi ks k s=true:=by
  unfold x9 at h;rw[h3] at h;simp only at h
  split at h
  ·cases h
  split at h
  ·rename_i hh;exact absurd rfl hh.2.1
  split at h
  ·rename_i hh;exact absurd rfl hh.1
  split at h
  ·cases h
  simpa using h
 unfold Wi at hc
 split at hc
 ·cases hc
 ·omega
theorem ap3 (ks:List dw) (h:∀i,i<ks.length->He ks i=true):aje ks∧ang ks:=by
 have hh:∀i (hi:i<ks.length),(ks[i].eu.length<=1000∧ks[i].au.length<=1000∧∀q (hq:q<ks[i].au.length),0<=ks[i].au[q]∧ks[i].au[q]<(i:Int))∧Eu (ks[i].body.length+1) (jl ks[i].body) 0=true∧∀s,s∈ks[i].body->x9 ks ks[i] s=true:=fun i hi=>by
  have h0:=h i hi;unfold He at h0;rw[jy hi] at h0;simp only[uq,xw] at h0;obtain⟨⟨⟨⟨_,a1⟩,a2⟩,_⟩,_,_,_,_,_,a3,a4,a5,_⟩:=h0;refine⟨⟨xq a1,xq a2,fun q hq=>?_⟩,a5,a4⟩;have:=a3 ks[i].au[q] (pz hq);exact xq this
 exact⟨fun i hi=>(hh i hi).1,fun i hi=>⟨(hh i hi).2.1,fun s hs h3=>ayt ks ks[i] s ((hh i hi).2.2 s hs) h3⟩⟩
def aav (ks:List dw) (v:Value) (w:bf):Prop:=∀i,i<ks.length->∀w',Below w.heap.size w w'->Calls Tryz.prog 52 #[.agg #[v],.int .i64 (i:Int)] w' (Ans (.bool (He ks i)) w')
set_option maxRecDepth 20000 in
theorem ani (ks:List dw) (v:Value) (w:bf) (hv:iy 7 160 Dl 0 w v ks) (hcl:aav ks v w) :
  Calls Tryz.prog 23 #[.agg #[v]] w (Ans (.bool (Py ks)) w):=by
 have HV:=hide hv;have Qj:=hide hcl;have hlm:=hv.Bz;obtain⟨b0,c0,rfl⟩:=hv.shape;clear hv hcl;have hA:Below w.heap.size w (w.alloc (.cells #[.slice b0 ks.length c0] 24)):=(gy _ _).alloc (gq _) _;have U6:jc (w.alloc (.cells #[.slice b0 ks.length c0] 24)) w.heap.size 24 #[.slice b0 ks.length c0]:=og w #[.slice b0 ks.length c0] 24;obtain⟨BX,l9⟩:∃BX:bf->Prop,∀w',BX w'↔Below (w.heap.size+1) (w.alloc (.cells #[.slice b0 ks.length c0] 24)) w':=⟨_,fun _=>Iff.rfl⟩;have Xi:(w.alloc (.cells #[.slice b0 ks.length c0] 24)).heap.size=w.heap.size+1:=by simp
 have Ak:Hid (∀w1,BX w1->Below w.heap.size w w1):=fun w1 h=>hA.trans (((l9 w1).1 h).mono (by omega))
 have Gl:Hid (∀w1 w2,BX w1->Below w1.heap.size w1 w2->BX w2):=fun w1 w2 h h2=>(l9 w2).2 (((l9 w1).1 h).trans (h2.mono (by have:=((l9 w1).1 h).size;omega)))
 have Js:Hid (∀w1,BX w1->w1.cell? ⟨w.heap.size,0,none⟩=some (.slice b0 ks.length c0)):=fun w1 h=>(U6.below ((l9 w1).1 h) (by omega)).cell (i:=0) (v:=.slice b0 ks.length c0) rfl
 have HX0:Hid (BX (w.alloc (.cells #[.slice b0 ks.length c0] 24))):=(l9 _).2 (gy _ _);have HA:=hide hA;clear hA U6 l9 Xi;have HM:Hid (Py ks=(decide (1<=ks.length∧ks.length<=200)&&((List.range ks.length).all (He ks)&&((Iq ks ks.length).all (fun n=>decide (n<=20000))&&(L6 ks ks.length).all (fun n=>decide (n<=400000)))))):=rfl;generalize Py ks=R at *
 by_cases h1:(ks.length:Int)<1
 ·have e1:decide ((ks.length:Int)<1)=true:=jf h1
  have HF:Hid (R=false):=(uh HM).trans (by rw[iw (by omega),Bc]);clear HM;go_enter Tryz.func23,Tryz.ntmps23;go_wp2;go_ret;exact⟨qo (uh HF).symm,uh HA⟩
 have e1:decide ((ks.length:Int)<1)=false:=iw h1
 by_cases h2:200<(ks.length:Int)
 ·have e2:decide (200<(ks.length:Int))=true:=jf h2
  have HF:Hid (R=false):=(uh HM).trans (by rw[iw (by omega),Bc]);clear HM;go_enter Tryz.func23,Tryz.ntmps23;go_wp2;go_ret;exact⟨qo (uh HF).symm,uh HA⟩
 have e2:decide (200<(ks.length:Int))=false:=iw h2;have HM2:Hid (R=((List.range ks.length).all (He ks)&&((Iq ks ks.length).all (fun n=>decide (n<=20000))&&(L6 ks ks.length).all (fun n=>decide (n<=400000))))):=(uh HM).trans (by rw[jf ⟨by omega,by omega⟩,Ar]);have ayu:ks.length<=200:=by omega
 clear HM h1 h2;go_enter Tryz.func23,Tryz.ntmps23;go_wp2
 go_loopg [21] ks.length (fun g iv wr=>∃(i:Nat),i<=ks.length∧g=ks.length-i∧iv=.int .i64 i∧(∀j,j<i->He ks j=true)∧BX wr)
 case atStart=>exact⟨0,jg _,by omega,rfl,fun j hj=>absurd hj (yt _),uh HX0⟩
 case round =>
  obtain⟨i,hi,hg,rfl,hno,hbx⟩:=hrel;rename bf=>wr;have HG:=hide hg;have Cc:=hide hno;have Ef:=hide hbx;have q0:=uh Js _ hbx;clear hg hno hbx
  by_cases hlt:i<ks.length
  ·have Aw:=hide (uh Qj i hlt wr (uh Ak _ (uh Ef)))
   have HN:Hid (He ks i=false->R=false):=fun h=>(uh HM2).trans (by rw[show (List.range ks.length).all (He ks)=false from (by rw[List.all_eq_false];exact⟨i,uw.2 hlt,by simp[h]⟩),Bc])
   have HY:Hid (He ks i=true->∀j,j<i+1->He ks j=true):=fun h j hji=>by
    by_cases e:j=i
    ·subst e;exact h
    ·exact uh Cc j (by omega)
   have hlt':(i:Int)<(ks.length:Int):=by omega
   generalize He ks i=cb at *
   cases cb
   ·have HF:=hide (uh HN rfl)
    clear HN HY;go_wp2_with fail;refine(uh Aw).mono ?_;rintro e w5 ⟨rfl,hb5⟩;have HB:=hide (uh Ak _ (uh Gl _ _ (uh Ef) hb5));clear hb5;go_wp2;go_ret;exact⟨qo (uh HF).symm,uh HB⟩
   ·have Ls:=hide (uh HY rfl)
    clear HN HY;go_wp2_with fail;refine(uh Aw).mono ?_;rintro e w5 ⟨rfl,hb5⟩;have HB:=hide (uh Gl _ _ (uh Ef) hb5);clear hb5;go_wp2
    go_roundg (ks.length-(i+1))
    case measure=>have:=uh HG;omega
    case rel=>exact⟨i+1,by omega,rfl,by go_num,uh Ls,uh HB⟩
  ·have e:i=ks.length:=by omega
   subst e;have HOK:=hide (ap3 ks (uh Cc));have HM3:Hid (R=((Iq ks ks.length).all (fun n=>decide (n<=20000))&&(L6 ks ks.length).all (fun n=>decide (n<=400000)))):=(uh HM2).trans (by rw[show (List.range ks.length).all (He ks)=true from (by rw[xw];exact fun j hj=>uh Cc j (uw.1 hj)),Ar]);have Aw:=hide (asn ks _ wr ((uh HV).stays Ei (uh Ak _ (uh Ef))) (uh HOK).1 ayu);have hcl0:=Oa ks ks.length;clear HM2 Cc HG;go_wp2_with fail;refine(uh Aw).mono ?_;rintro e w5 ⟨lv,rfl,hSL,hb5⟩;have hx5:=uh Gl _ _ (uh Ef) hb5;have Hf:=hide hx5;clear hb5 hx5 Aw Ef;obtain⟨la,lc,rfl⟩:=hSL.shape
   have HLE:Hid (∀i (hi:i<(Iq ks ks.length).length),∃b o,la=some ⟨b,o,none⟩∧w5.cell? ⟨b,o+i,none⟩=some (.int .i64 (Iq ks ks.length)[i])):=fun i hi=>by
    obtain⟨_,_,Jb,_,_,F5⟩:=hSL;simp only[qw] at Jb;obtain⟨rfl,_,rfl⟩:=Jb;obtain⟨b,o,cs,rfl,_,hb,_,hc,⟨rfl,hr⟩⟩:=F5 i hi;refine⟨b,o,rfl,?_⟩;have h0:=hc 0 (by simp);rw[jr,jh] at h0;exact h0
   have hll:=hSL.Bz;clear hSL;generalize hcs:Iq ks ks.length=cl at *;clear hcs hcl0;go_wp2
   go_loopg [32] cl.length (fun g iv wr=>∃(i:Nat),i<=cl.length∧g=cl.length-i∧iv=.int .i64 i∧(∀j (hj:j<cl.length),j<i->decide (cl[j]<=20000)=true)∧wr=w5)
   case atStart=>exact⟨0,jg _,by omega,rfl,fun j _ hj=>absurd hj (yt _),rfl⟩
   case round =>
    obtain⟨i,hi,hg,rfl,hno,rfl⟩:=hrel;have HG:=hide hg;have Cc:=hide hno;clear hg hno
    by_cases hlt:i<cl.length
    ·obtain⟨b,o,rfl,x0⟩:=uh HLE i hlt
     have HN:Hid (¬cl[i]<=20000->R=false):=fun h=>(uh HM3).trans (by rw[aaw i hlt (iw h),Bc])
     have HY:Hid (cl[i]<=20000->∀j (hj:j<cl.length),j<i+1->decide (cl[j]<=20000)=true):=fun h j hj hji=>by
      by_cases e:j=i
      ·subst e;exact jf h
      ·exact uh Cc j hj (by omega)
     have hlt':(i:Int)<(cl.length:Int):=by omega
     generalize cl[i]=n at *
     by_cases hn:20000<n
     ·have f1:decide (20000<n)=true:=jf hn
      have HF:=hide (uh HN (by omega));have HB:=hide (uh Ak _ (uh Hf));clear HN HY;go_wp2;go_ret;exact⟨qo (uh HF).symm,uh HB⟩
     ·have f1:decide (20000<n)=false:=iw hn
      have Ls:=hide (uh HY (by omega));clear HN HY;go_wp2
      go_roundg (cl.length-(i+1))
      case measure=>have:=uh HG;omega
      case rel=>exact⟨i+1,by omega,rfl,by go_num,uh Ls,rfl⟩
    ·have e:i=cl.length:=by omega
     subst e;have HM4:Hid (R=(L6 ks ks.length).all (fun n=>decide (n<=400000))):=(uh HM3).trans (by rw[Yg (fun j hj=>uh Cc j hj hj),Ar]);have q5:=uh Js _ (uh Hf);have HC2:=hide (ap2 ks _ _ ((uh HV).stays Ei (uh Ak _ (uh Hf))) (uh HOK).1 (uh HOK).2 ayu);clear HM3 Cc HG HLE hi;go_wp2_with fail;refine(uh HC2).mono ?_;rintro e w6 ⟨lv,rfl,hSL,hb6⟩;have hx6:=uh Gl _ _ (uh Hf) hb6;have Wx:=hide (uh Ak _ hx6);clear hb6 hx6 HC2;obtain⟨ma,mc,rfl⟩:=hSL.shape
     have HLE:Hid (∀i (hi:i<(L6 ks ks.length).length),∃b o,ma=some ⟨b,o,none⟩∧w6.cell? ⟨b,o+i,none⟩=some (.int .i64 (L6 ks ks.length)[i])):=fun i hi=>by
      obtain⟨_,_,Jb,_,_,F5⟩:=hSL;simp only[qw] at Jb;obtain⟨rfl,_,rfl⟩:=Jb;obtain⟨b,o,cs,rfl,_,hb,_,hc,⟨rfl,hr⟩⟩:=F5 i hi;refine⟨b,o,rfl,?_⟩;have h0:=hc 0 (by simp);rw[jr,jh] at h0;exact h0
     have hml:=hSL.Bz;clear hSL;generalize L6 ks ks.length=bl at *;go_wp2
     go_loopg [42] bl.length (fun g iv wr=>∃(i:Nat),i<=bl.length∧g=bl.length-i∧iv=.int .i64 i∧(∀j (hj:j<bl.length),j<i->decide (bl[j]<=400000)=true)∧wr=w6)
     case atStart=>exact⟨0,jg _,by omega,rfl,fun j _ hj=>absurd hj (yt _),rfl⟩
     case round =>
      obtain⟨i,hi,hg,rfl,hno,rfl⟩:=hrel;have HG:=hide hg;have Cc:=hide hno;clear hg hno
      by_cases hlt:i<bl.length
      ·obtain⟨b,o,rfl,x0⟩:=uh HLE i hlt
       have HN:Hid (¬bl[i]<=400000->R=false):=fun h=>(uh HM4).trans (aaw i hlt (iw h))
       have HY:Hid (bl[i]<=400000->∀j (hj:j<bl.length),j<i+1->decide (bl[j]<=400000)=true):=fun h j hj hji=>by
        by_cases e:j=i
        ·subst e;exact jf h
        ·exact uh Cc j hj (by omega)
       have hlt':(i:Int)<(bl.length:Int):=by omega
       generalize bl[i]=n at *
       by_cases hn:400000<n
       ·have f1:decide (400000<n)=true:=jf hn
        have HF:=hide (uh HN (by omega));clear HN HY;go_wp2;go_ret;exact⟨qo (uh HF).symm,uh Wx⟩
       ·have f1:decide (400000<n)=false:=iw hn
        have Ls:=hide (uh HY (by omega));clear HN HY;go_wp2
        go_roundg (bl.length-(i+1))
        case measure=>have:=uh HG;omega
        case rel=>exact⟨i+1,by omega,rfl,by go_num,uh Ls,rfl⟩
      ·have e:i=bl.length:=by omega
       subst e;have HF:Hid (R=true):=(uh HM4).trans (Yg (fun j hj=>uh Cc j hj hj));go_wp2;go_ret;exact⟨qo (uh HF).symm,uh Wx⟩
inductive PL where
 | nil
 | leaf (s:lu) (r:PL)
 | br (s:lu) (a:PL) (el:lu) (b:PL) (en:lu) (r:PL)
def PL.flat:PL->List lu
 | .nil=>[]
 | .leaf s r=>s::r.flat
 | .br s a el b en r=>s::(a.flat++el::(b.flat++en::r.flat))
def PL.wf:PL->Prop
 | .nil=>True
 | .leaf s r=>(s.kind≠4∧s.kind≠5∧s.kind≠6)∧r.wf
 | .br s a el b en r=>(s.kind=4∧el.kind=5∧en.kind=6)∧a.wf∧b.wf∧r.wf
def PL.deep:PL->Int->Prop
 | .nil,_=>True
 | .leaf _ r,d=>d<=20∧r.deep d
 | .br _ a _ b _ r,d=>d<=20∧a.deep (d+1)∧b.deep (d+1)∧r.deep d
def PL.cost (kn:lu->Int):PL->Int->Int
 | .nil,s=>s
 | .leaf st r,s=>r.cost kn (Lm (s+(if st.kind=3 then 1+kn st else 1)))
 | .br _ a _ b _ r,s=>r.cost kn (Lm (s+(1+maxS (a.cost kn 0) (b.cost kn 0))))
def PL.free:PL->List dh->Prop
 | .nil,_=>True
 | .leaf s r,H=>(∀x,x∈H->Wv s x=false)∧r.free H
 | .br s a _ b _ r,H=>a.free (s.name::H)∧b.free (s.name::H)∧r.free H
def PL.Xx:PL->Prop
 | .nil=>True
 | .leaf _ r=>r.Xx
 | .br s a _ b _ r=>((∀u,u∈a.flat->Wv u s.name=false)∧∀u,u∈b.flat->Wv u s.name=false)∧a.Xx∧b.Xx∧r.Xx
theorem Rj (s:lu) (l:List lu):jl (s::l)=s.kind::jl l:=rfl
theorem aft (l m:List lu):jl (l++m)=jl l++jl m:=Il
theorem Jt (l:List lu):(jl l).length=l.length:=Ad _
theorem anj (t:PL):∀(rest:List Int) (j:Nat) (d o:Int),t.wf->1<=d->Ju (jl t.flat++rest) j d o=Ju rest (j+t.flat.length) d o:=by
 induction t with
 | nil=>intro rest j d o _ _;simp[PL.flat,jl]
 | leaf s r ih =>
  intro rest j d o h hd;obtain⟨⟨h4,h5,h6⟩,hr⟩:=h;simp only[PL.flat,Rj,Fe,uf];rw[Ju,ay h4,ay h5,ay h6,ih _ _ _ _ hr hd];congr 1;omega
 | br s a el b en r iha ihb ihr =>
  intro rest j d o h hd;obtain⟨⟨h4,h5,h6⟩,ha,hb,hr⟩:=h;simp only[PL.flat,Rj,aft,Fe,Gt,uf,je];rw[Ju,gu h4,iha _ _ _ _ ha (by omega),Ju,ay (by omega),gu h5,ay (by omega),ihb _ _ _ _ hb (by omega),Ju,ay (by omega),ay (by omega),gu h6,ay (by omega),ihr _ _ _ _ hr (by omega)];congr 1<;>omega
theorem ahz (ks:List Int) (i:Nat) (a b:PL) (post:List Int) (ha:a.wf) (hb:b.wf) (h:ks.drop i=4::(jl a.flat++5::(jl b.flat++6::post))) :
  uj ks i=(((i+1+a.flat.length:Nat):Int),((i+1+a.flat.length+1+b.flat.length:Nat):Int)):=by
 unfold uj;rw[h,Ju,gu rfl,anj a _ _ _ _ ha (by omega),Ju,ay (by omega),gu rfl,gu (by omega),ay (by omega),anj b _ _ _ _ hb (by omega),Ju,ay (by omega),ay (by omega),gu rfl,gu (by omega)]
theorem ag1 {α:Type} (pre:List α) (x:α) (A R:List α) (i:Nat) (hi:i=pre.length) (q:Nat) (hq:q=i+1+A.length):vw (pre++x::(A++R)) (i+1) q=A:=by
 subst hi hq;unfold vw
 have e:(pre++x::(A++R)).drop (pre.length+1)=A++R:=by
  rw[List.drop_append];simp
 rw[e,show pre.length+1+A.length-(pre.length+1)=A.length by omega,List.take_left]
theorem adp (pre l:List Int):(pre++l).drop pre.length=l:=List.drop_left
theorem ayv (t:PL):∀(f n:Nat) (pre:List Int) (d:Int),t.wf->t.deep d->t.flat.length<=f->t.flat.length<n->Sz (Eu f) (pre++jl t.flat) d n pre.length=true:=by
 induction t with
 | nil =>
  intro f n pre d _ _ _ _;have:=als (Eu f) pre d n;simpa[PL.flat,jl] using this
 | leaf s r ih =>
  intro f n pre d h hd hf hn;obtain⟨⟨h4,h5,h6⟩,hr⟩:=h;simp only[PL.flat,uf] at hf hn;obtain⟨n,rfl⟩:∃m,n=m+1:=⟨n-1,by omega⟩;rw[Y1 _ _ _ _ _ (by simp[PL.flat,Rj])];have e:(pre++jl (PL.leaf s r).flat)[pre.length]'(by simp[PL.flat,Rj])=s.kind:=by simp[PL.flat,Rj]
  rw[e,ay (by omega),ay h4];have:=ih f n (pre++[s.kind]) d hr hd.2 (by omega) (by omega);simpa[PL.flat,Rj] using this
 | br s a el b en r iha ihb ihr =>
  intro f n pre d h hd hf hn;obtain⟨⟨h4,h5,h6⟩,ha,hb,hr⟩:=h;obtain⟨hd0,hda,hdb,hdr⟩:=hd;simp only[PL.flat,uf,je] at hf hn;obtain⟨n,rfl⟩:∃m,n=m+1:=⟨n-1,by omega⟩;obtain⟨f,rfl⟩:∃m,f=m+1:=⟨f-1,by omega⟩
  have ek:pre++jl (PL.br s a el b en r).flat=pre++4::(jl a.flat++5::(jl b.flat++6::jl r.flat)):=by
   simp[PL.flat,Rj,aft,h4,h5,h6]
  rw[ek];rw[Y1 _ _ _ _ _ (by simp)];have e:(pre++4::(jl a.flat++5::(jl b.flat++6::jl r.flat)))[pre.length]'(by simp)=4:=by simp
  rw[e,ay (by omega),gu rfl,ahz _ _ a b (jl r.flat) ha hb (adp _ _)];rw[ay (by omega)]
  have hin:¬((((pre.length:Nat):Int)+1<((pre.length+1+a.flat.length:Nat):Int)∨((pre.length+1+a.flat.length:Nat):Int)+1<((pre.length+1+a.flat.length+1+b.flat.length:Nat):Int))∧20<d+1):=by
   rintro⟨h1|h1,h2⟩
   ·cases a with
    | nil=>simp[PL.flat] at h1
    | leaf _ _=>have:=hda.1;omega
    | br _ _ _ _ _ _=>have:=hda.1;omega
   ·cases b with
    | nil=>simp[PL.flat] at h1
    | leaf _ _=>have:=hdb.1;omega
    | br _ _ _ _ _ _=>have:=hdb.1;omega
  rw[ay hin];simp only[En];rw[ag1 pre 4 (jl a.flat) _ pre.length rfl _ (by rw[Jt])]
  have e2:vw (pre++4::(jl a.flat++5::(jl b.flat++6::jl r.flat))) (pre.length+1+a.flat.length+1) (pre.length+1+a.flat.length+1+b.flat.length)=jl b.flat:=by
   have:=ag1 (pre++4::jl a.flat) 5 (jl b.flat) (6::jl r.flat) (pre.length+1+a.flat.length) (by simp[Jt];omega) (pre.length+1+a.flat.length+1+b.flat.length) (by rw[Jt]);simpa using this
  rw[e2]
  have ra:Eu (f+1) (jl a.flat) (d+1)=true:=by
   have:=iha f ((jl a.flat).length+1) [] (d+1) ha hda (by omega) (by rw[Jt];omega);simpa[Eu] using this
  have rb:Eu (f+1) (jl b.flat) (d+1)=true:=by
   have:=ihb f ((jl b.flat).length+1) [] (d+1) hb hdb (by omega) (by rw[Jt];omega);simpa[Eu] using this
  rw[ra,rb];simp only[Bool.true_eq_false,if_false];have:=ihr (f+1) n (pre++4::(jl a.flat++5::(jl b.flat++[6]))) d hr hdr (by omega) (by omega);have el:(pre++4::(jl a.flat++5::(jl b.flat++[6]))).length=pre.length+1+a.flat.length+1+b.flat.length+1:=by simp[Jt];omega
  rw[el] at this;simpa using this
theorem avm (ks:List Int):∀(j:Nat) (d o:Int),0<=(Ju ks j d o).2->(∃e:Nat,(Ju ks j d o).2=(j+e:Nat)∧ks[e]?=some 6)∧((Ju ks j d o).1=o∨∃e:Nat,(Ju ks j d o).1=(j+e:Nat)∧ks[e]?=some 5):=by
 induction ks with
 | nil=>intro j d o h;simp[Ju] at h
 | cons kd r ih =>
  have up:∀(j:Nat) (d o o':Int),0<=(Ju r (j+1) d o).2->(o=o'∨∃e:Nat,o=(j+e:Nat)∧(kd::r)[e]?=some 5)->(∃e:Nat,(Ju r (j+1) d o).2=(j+e:Nat)∧(kd::r)[e]?=some 6)∧((Ju r (j+1) d o).1=o'∨∃e:Nat,(Ju r (j+1) d o).1=(j+e:Nat)∧(kd::r)[e]?=some 5):=by
   intro j d o o' h ho;obtain⟨⟨e,h1,h2⟩,h3⟩:=ih (j+1) d o h;refine⟨⟨e+1,by omega,by simpa using h2⟩,?_⟩;rcases h3 with h3|⟨e,h3,h4⟩
   ·rw[h3];exact ho
   ·exact Or.inr ⟨e+1,by omega,by simpa using h4⟩
  intro j d o h;unfold Ju at h ⊢
  split at h<;>rename_i h4
  ·simp only[gu h4];exact up j _ o o h (Or.inl rfl)
  ·simp only[ay h4]
   split at h<;>rename_i h5
   ·simp only[gu h5]
    split at h<;>rename_i hd
    ·simp only[gu hd]
     split at h<;>rename_i ho
     ·simp at h
     ·simp only[ay ho]
      exact up j _ _ o h (Or.inr ⟨0,by simp,by simp[h5]⟩)
    ·simp only[ay hd];exact up j _ o o h (Or.inl rfl)
   ·simp only[ay h5]
    split at h<;>rename_i h6
    ·simp only[gu h6]
     split at h<;>rename_i hd
     ·simp only[gu hd]
      exact⟨⟨0,by simp,by simp[h6]⟩,by simp⟩
     ·simp only[ay hd];exact up j _ o o h (Or.inl rfl)
    ·simp only[ay h6];exact up j _ o o h (Or.inl rfl)
theorem ap4 (ks:List Int) (i:Nat) (h1:0<=(uj ks i).1) (h2:0<=(uj ks i).2):ks[(uj ks i).1.toNat]?=some 5∧ks[(uj ks i).2.toNat]?=some 6:=by
 unfold uj at *;obtain⟨⟨e,h3,h4⟩,h5⟩:=avm (ks.drop i) i 0 (-1) h2;rw[List.getElem?_drop] at h4;constructor
 ·rcases h5 with h5|⟨e,h5,h6⟩
  ·rw[h5] at h1;omega
  ·rw[h5,En]
   rw[List.getElem?_drop] at h6;exact h6
 ·rw[h3,En];exact h4
theorem avn:∀(f:Nat) (body:List lu) (d:Int),body.length<f->Eu f (jl body) d=true->(d<=20∨body=[])->∃t:PL,t.flat=body∧t.wf∧t.deep d:=by
 intro f
 induction f with
 | zero=>intro body d h;omega
 | succ f ihf =>
  intro body d hl h hd;rw[Eu] at h
  have main:∀(n i:Nat),i<=body.length->body.length-i<n->Sz (Eu f) (jl body) d n i=true->∃t:PL,t.flat=body.drop i∧t.wf∧t.deep d:=by
   intro n
   induction n with
   | zero=>intro i _ h;omega
   | succ n ihn =>
    intro i hi hn hh
    by_cases hlt:i<body.length
    case neg =>
     exact⟨.nil,by rw[List.drop_eq_nil_of_le (by omega)];rfl,trivial,trivial⟩
    have a7g:d<=20:=by
     rcases hd with hd|hd
     ·exact hd
     ·subst hd;simp at hlt
    rw[Y1 _ _ _ _ _ (by rw[Jt];exact hlt),X5 body i hlt] at hh
    split at hh
    ·cases hh
    rename_i Y2
    split at hh
    ·rename_i h4
     split at hh
     ·cases hh
     rename_i hneg
     split at hh
     ·cases hh
     rename_i be9
     split at hh
     ·cases hh
     rename_i ra
     split at hh
     ·cases hh
     rename_i rb
     have p1:0<=(uj (jl body) i).1:=by omega
     have p2:0<=(uj (jl body) i).2:=by omega
     have bd:=ah0 (jl body) i (by rw[Jt];exact hlt) (by rw[X5 body i hlt];exact h4) p1 p2;have kk:=ap4 (jl body) i p1 p2;rw[Jt] at bd;generalize (uj (jl body) i).1=oI at *;generalize (uj (jl body) i).2=eI at *;obtain⟨o,rfl⟩:=H8 p1;obtain⟨e,rfl⟩:=H8 p2;simp only[En] at *;have hoe:i+1<=o∧o<e∧e<body.length:=by omega
     rw[Bool.not_eq_false] at ra rb;rw[jl,←aem] at ra rb
     obtain⟨ta,fa,wa,da⟩:=ihf (vw body (i+1) o) (d+1) (by rw[Ru _ _ _ (by omega) (by omega)];omega) ra (by
      by_cases e1:i+1<o
      ·left;omega
      ·right;apply Qe;rw[Ru _ _ _ (by omega) (by omega)];omega)
     obtain⟨tb,fb,wb,db⟩:=ihf (vw body (o+1) e) (d+1) (by rw[Ru _ _ _ (by omega) (by omega)];omega) rb (by
      by_cases e1:o+1<e
      ·left;omega
      ·right;apply Qe;rw[Ru _ _ _ (by omega) (by omega)];omega)
     obtain⟨tr,fr,wr,dr⟩:=ihn (e+1) (by omega) (by omega) hh
     have k5:body[o].kind=5:=by
      have:=kk.1;rw[jy (by rw[Jt];omega),X5 body o (by omega)] at this;simpa using this
     have k6:body[e].kind=6:=by
      have:=kk.2;rw[jy (by rw[Jt];omega),X5 body e (by omega)] at this;simpa using this
     refine⟨.br body[i] ta body[o] tb body[e] tr,?_,⟨⟨h4,k5,k6⟩,wa,wb,wr⟩,⟨a7g,da,db,dr⟩⟩;simp only[PL.flat];rw[fa,fb,fr,List.drop_eq_getElem_cons hlt];congr 1;have c1:body.drop (o)=body[o]::body.drop (o+1):=List.drop_eq_getElem_cons (by omega);have c2:body.drop (e)=body[e]::body.drop (e+1):=List.drop_eq_getElem_cons (by omega)
     have sp:∀p q:Nat,p<=q->body.drop p=vw body p q++body.drop q:=fun p q hpq=>by
      unfold vw;have:=Pj (q-p) (body.drop p);rw[List.drop_drop,show p+(q-p)=q by omega] at this;exact this.symm
     rw[sp (i+1) o hoe.1,c1,sp (o+1) e (by omega),c2]
    ·rename_i h4
     obtain⟨tr,fr,wr,dr⟩:=ihn (i+1) (by omega) (by omega) hh;refine⟨.leaf body[i] tr,?_,⟨⟨h4,by omega,by omega⟩,wr⟩,⟨a7g,dr⟩⟩;simp only[PL.flat];rw[fr,List.drop_eq_getElem_cons hlt]
  have:=main ((jl body).length+1) 0 (jg _) (by rw[Jt];omega) h;simpa using this
theorem ayw (t:PL) (h:t.wf) (hd:t.deep 0):Eu (t.flat.length+1) (jl t.flat) 0=true:=by
 rw[Eu];exact ayv t t.flat.length ((jl t.flat).length+1) [] 0 h hd (gq _) (by rw[Jt];omega)
def wo (au known:List Int) (s:lu):Int:=known.getD (au.getD s.at_.toNat 0).toNat 0
theorem aso (au known:List Int) (s:lu) (l:List lu):costs au known (s::l)=(s.kind,wo au known s)::costs au known l:=rfl
theorem avo (au known:List Int) (l m:List lu):costs au known (l++m)=costs au known l++costs au known m:=Il
theorem Vl (au known:List Int) (l:List lu):(costs au known l).length=l.length:=Ad _
theorem ayx (au known:List Int) (t:PL):∀(f n:Nat) (pre:List lu) (s:Int),t.wf->t.flat.length<=f->t.flat.length<n->Pe (sumF f) (costs au known (pre++t.flat)) n pre.length s=t.cost (wo au known) s:=by
 induction t with
 | nil =>
  intro f n pre s _ _ _;have:=ank (sumF f) au known pre n s;simpa[PL.flat,PL.cost] using this
 | leaf st r ih =>
  intro f n pre s h hf hn;obtain⟨⟨h4,h5,h6⟩,hr⟩:=h;simp only[PL.flat,uf] at hf hn;obtain⟨n,rfl⟩:∃m,n=m+1:=⟨n-1,by omega⟩;rw[afu _ _ _ _ _ _ _ (by simp[PL.flat])];have e:(pre++(PL.leaf st r).flat)[pre.length]'(by simp[PL.flat])=st:=by simp[PL.flat]
  rw[e,ay h4];have ih':=fun s=>ih f n (pre++[st]) s hr (by omega) (by omega)
  simp only[Gt,List.singleton_append,je,Ob] at ih';simp only[PL.flat,PL.cost]
  split
  ·rw[ih'];rfl
  ·rw[ih']
 | br st a el b en r iha ihb ihr =>
  intro f n pre s h hf hn;obtain⟨⟨h4,h5,h6⟩,ha,hb,hr⟩:=h;simp only[PL.flat,uf,je] at hf hn;obtain⟨n,rfl⟩:∃m,n=m+1:=⟨n-1,by omega⟩;obtain⟨f,rfl⟩:∃m,f=m+1:=⟨f-1,by omega⟩;rw[afu _ _ _ _ _ _ _ (by simp[PL.flat])];have e:(pre++(PL.br st a el b en r).flat)[pre.length]'(by simp[PL.flat])=st:=by simp[PL.flat]
  rw[e,gu h4]
  have ek:jl (pre++(PL.br st a el b en r).flat)=jl pre++4::(jl a.flat++5::(jl b.flat++6::jl r.flat)):=by
   simp[PL.flat,Rj,aft,h4,h5,h6]
  rw[ek,ahz _ _ a b (jl r.flat) ha hb (by rw[←Jt pre];exact adp _ _)];simp only[En]
  have ec:costs au known (pre++(PL.br st a el b en r).flat)=costs au known pre++(st.kind,wo au known st)::(costs au known a.flat++(el.kind,wo au known el)::(costs au known b.flat++(en.kind,wo au known en)::costs au known r.flat)):=by
   simp[PL.flat,aso,avo]
  rw[ec];rw[ag1 (costs au known pre) _ (costs au known a.flat) _ pre.length (by rw[Vl]) _ (by rw[Vl])]
  have e2:vw (costs au known pre++(st.kind,wo au known st)::(costs au known a.flat++(el.kind,wo au known el)::(costs au known b.flat++(en.kind,wo au known en)::costs au known r.flat))) (pre.length+1+a.flat.length+1) (pre.length+1+a.flat.length+1+b.flat.length)=costs au known b.flat:=by
   have:=ag1 (costs au known pre++(st.kind,wo au known st)::costs au known a.flat) (el.kind,wo au known el) (costs au known b.flat) ((en.kind,wo au known en)::costs au known r.flat) (pre.length+1+a.flat.length) (by simp[Vl];omega) (pre.length+1+a.flat.length+1+b.flat.length) (by rw[Vl]);simpa using this
  rw[e2,←ec]
  have ra:sumF (f+1) (costs au known a.flat)=a.cost (wo au known) 0:=by
   rw[sumF];exact iha f ((costs au known a.flat).length+1) [] 0 ha (by omega) (by rw[Vl];omega)
  have rb:sumF (f+1) (costs au known b.flat)=b.cost (wo au known) 0:=by
   rw[sumF];exact ihb f ((costs au known b.flat).length+1) [] 0 hb (by omega) (by rw[Vl];omega)
  rw[ra,rb];have:=ihr (f+1) n (pre++st::(a.flat++el::(b.flat++[en]))) (Lm (s+(1+maxS (a.cost (wo au known) 0) (b.cost (wo au known) 0)))) hr (by omega) (by omega);have el':(pre++st::(a.flat++el::(b.flat++[en]))).length=pre.length+1+a.flat.length+1+b.flat.length+1:=by simp;omega
  rw[el'] at this;simp only[PL.cost];rw[←this];simp[PL.flat]
theorem ayy (au known:List Int) (t:PL) (h:t.wf):sumF (t.flat.length+1) (costs au known t.flat)=t.cost (wo au known) 0:=by
 rw[sumF];exact ayx au known t t.flat.length ((costs au known t.flat).length+1) [] 0 h (gq _) (by rw[Vl];omega)
theorem ayz (t:PL):∀H:List dh,t.wf->(t.free H↔(∀x,x∈H->∀u,u∈t.flat->Wv u x=false)∧t.Xx):=by
 induction t with
 | nil=>intro H _;simp[PL.free,PL.flat,PL.Xx]
 | leaf s r ih =>
  intro H h;simp only[PL.free,PL.flat,PL.Xx,ih H h.2,ql];constructor
  ·rintro⟨h1,h2,h3⟩
   refine⟨fun x hx u hu=>?_,h3⟩;rcases hu with rfl|hu
   ·exact h1 x hx
   ·exact h2 x hx u hu
  ·rintro⟨h1,h3⟩
   exact⟨fun x hx=>h1 x hx s (Or.inl rfl),fun x hx u hu=>h1 x hx u (Or.inr hu),h3⟩
 | br s a el b en r iha ihb ihr =>
  intro H h;obtain⟨⟨h4,h5,h6⟩,ha,hb,hr⟩:=h
  have wk:∀(u:lu) (x:dh),u.kind≠1->u.kind≠3->Wv u x=false:=fun u x k1 k3=>by
   simp[Wv,k1,k3]
  simp only[PL.free,PL.flat,PL.Xx,iha _ ha,ihb _ hb,ihr _ hr,ql,Ec];constructor
  ·rintro⟨⟨a1,a2⟩,⟨b1,b2⟩,r1,r2⟩
   refine⟨fun x hx u hu=>?_,⟨fun u hu=>a1 _ (Or.inl rfl) u hu,fun u hu=>b1 _ (Or.inl rfl) u hu⟩,a2,b2,r2⟩;rcases hu with rfl|hu|rfl|hu|rfl|hu
   ·exact wk _ _ (by omega) (by omega)
   ·exact a1 x (Or.inr hx) u hu
   ·exact wk _ _ (by omega) (by omega)
   ·exact b1 x (Or.inr hx) u hu
   ·exact wk _ _ (by omega) (by omega)
   ·exact r1 x hx u hu
  ·rintro⟨h1,⟨a1,b1⟩,a2,b2,r2⟩
   refine⟨⟨fun x hx u hu=>?_,a2⟩,⟨fun x hx u hu=>?_,b2⟩,fun x hx u hu=>h1 x hx u (Or.inr (Or.inr (Or.inr (Or.inr (Or.inr hu))))),r2⟩
   ·rcases hx with rfl|hx
    ·exact a1 u hu
    ·exact h1 x hx u (Or.inr (Or.inl hu))
   ·rcases hx with rfl|hx
    ·exact b1 u hu
    ·exact h1 x hx u (Or.inr (Or.inr (Or.inr (Or.inl hu))))
theorem aen (body:List lu) (i:Nat) (s:lu) (h:body[i]?=some s) (h4:s.kind≠4):Um body i=false:=by
 unfold Um;rw[h];simp[h4]
theorem ay0 (body:List lu) (i:Nat) (s el en:lu) (a b:PL) (post:List lu) (h:body.drop i=s::(a.flat++el::(b.flat++en::post))) (h4:s.kind=4) (h5:el.kind=5) (h6:en.kind=6) (ha:a.wf) (hb:b.wf) :
  (Um body i=false↔(∀u,u∈a.flat->Wv u s.name=false)∧∀u,u∈b.flat->Wv u s.name=false):=by
 have wk:∀(u:lu) (x:dh),u.kind≠1->u.kind≠3->Wv u x=false:=fun u x k1 k3=>by
  simp[Wv,k1,k3]
 have hs:body[i]?=some s:=by
  have:(body.drop i)[0]?=some s:=by rw[h];rfl
  simpa using this
 have hp:uj (jl body) i=(((i+1+a.flat.length:Nat):Int),((i+1+a.flat.length+1+b.flat.length:Nat):Int)):=by
  refine ahz _ _ a b (jl post) ha hb ?_;unfold jl;rw[←List.map_drop,h];simp[h4,h5,h6]
 have hel:∀j,body[i+j]?=(s::(a.flat++el::(b.flat++en::post)))[j]?:=fun j=>by
  rw[←h,List.getElem?_drop]
 unfold Um;rw[hs,hp];simp only[h4,En];rw[show ((4:Int) == 4)=true from rfl,Ar,List.any_eq_false];constructor
 ·intro hh
  refine⟨fun u hu=>?_,fun u hu=>?_⟩
  ·obtain⟨q,hq,rfl⟩:=List.getElem_of_mem hu
   have h1:=hh (i+(q+1)) (uw.2 (by omega));rw[hel (q+1),List.getElem?_cons_succ,List.getElem?_append_left hq,jy hq] at h1;simpa using h1
  ·obtain⟨q,hq,rfl⟩:=List.getElem_of_mem hu
   have h1:=hh (i+(a.flat.length+1+q+1)) (uw.2 (by omega));rw[hel (a.flat.length+1+q+1),List.getElem?_cons_succ,Ux (by omega),show a.flat.length+1+q-a.flat.length=q+1 by omega,List.getElem?_cons_succ,List.getElem?_append_left hq,jy hq] at h1;have h2:decide (i<=i+(a.flat.length+1+q+1))=true:=jf (by omega);rw[h2] at h1;simpa using h1
 ·rintro⟨h1,h2⟩ j hj
  rw[uw] at hj
  by_cases hij:i<=j
  case neg=>simp[hij]
  obtain⟨q,rfl⟩:∃q,j=i+q:=⟨j-i,by omega⟩;rw[hel q];have hd:decide (i<=i+q)=true:=jf (by omega);rw[hd,Ar];rcases q with _|q
  ·simp only[List.getElem?_cons_zero]
   rw[wk s _ (by omega) (by omega)];decide
  ·rw[List.getElem?_cons_succ]
   by_cases hq:q<a.flat.length
   ·rw[List.getElem?_append_left hq,jy hq]
    simp[h1 _ (pz hq)]
   ·rw[Ux (by omega)]
    rcases hr:q-a.flat.length with _|p
    ·rw[List.getElem?_cons_zero]
     simp[wk el _ (by omega) (by omega)]
    ·rw[List.getElem?_cons_succ,List.getElem?_append_left (by omega),jy (by omega)]
     simp[h2 _ (pz _)]
theorem a4e (t:PL):∀(pre post:List lu),t.wf->((∀i,pre.length<=i->i<pre.length+t.flat.length->Um (pre++t.flat++post) i=false)↔t.Xx):=by
 induction t with
 | nil=>intro pre post _;simp only[PL.Xx,PL.flat,iff_true];intro i h1 h2;simp at h2;omega
 | leaf s r ih =>
  intro pre post h;have ih':=ih (pre++[s]) post h.2;simp only[Gt,List.singleton_append,je,Ob] at ih';simp only[PL.flat,PL.Xx,uf,Gt,Fe];rw[←ih'];constructor
  ·intro hh i h1 h2
   exact hh i (by omega) (by omega)
  ·intro hh i h1 h2
   by_cases e:i=pre.length
   ·subst e
    exact aen _ _ s (by simp) h.1.1
   ·exact hh i (by omega) (by omega)
 | br s a el b en r iha ihb ihr =>
  intro pre post h;obtain⟨⟨h4,h5,h6⟩,ha,hb,hr⟩:=h;have a7h:=iha (pre++[s]) (el::(b.flat++en::(r.flat++post))) ha;have a7i:=ihb (pre++s::(a.flat++[el])) (en::(r.flat++post)) hb;have a7j:=ihr (pre++s::(a.flat++el::(b.flat++[en]))) post hr;simp only[Gt,List.singleton_append,Fe,je,Ob,uf,A8] at a7h a7i a7j;simp only[PL.flat,PL.Xx,uf,je,Gt,Fe];have hbr:=ay0 (pre++s::(a.flat++el::(b.flat++en::(r.flat++post)))) pre.length s el en a b (r.flat++post) List.drop_left h4 h5 h6 ha hb;rw[←a7h,←a7i,←a7j,←hbr];constructor
  ·intro hh
   exact⟨hh _ (gq _) (by omega),fun i h1 h2=>hh i (by omega) (by omega),fun i h1 h2=>hh i (by omega) (by omega),fun i h1 h2=>hh i (by omega) (by omega)⟩
  ·rintro⟨g0,g1,g2,g3⟩ i h1 h2
   by_cases e0:i=pre.length
   ·subst e0;exact g0
   by_cases e1:i<pre.length+1+a.flat.length
   ·exact g1 i (by omega) (by omega)
   by_cases e2:i=pre.length+1+a.flat.length
   ·refine aen _ _ el ?_ (by omega)
    rw[Ux (by omega),show i-pre.length=a.flat.length+1 by omega,List.getElem?_cons_succ,Ux (by omega),Nat.sub_self];rfl
   by_cases e3:i<pre.length+1+a.flat.length+1+b.flat.length
   ·exact g2 i (by omega) (by omega)
   by_cases e4:i=pre.length+1+a.flat.length+1+b.flat.length
   ·refine aen _ _ en ?_ (by omega)
    rw[Ux (by omega),show i-pre.length=(a.flat.length+1+b.flat.length)+1 by omega,List.getElem?_cons_succ,Ux (by omega),show a.flat.length+1+b.flat.length-a.flat.length=b.flat.length+1 by omega,List.getElem?_cons_succ,Ux (by omega),Nat.sub_self];rfl
   ·exact g3 i (by omega) (by omega)
theorem alu (t:PL) (h:t.wf):((List.range t.flat.length).all (fun j=>!Um t.flat j)=true↔t.free []):=by
 rw[ayz t [] h,xw];have:=a4e t [] [] h;simp only[Gu,Az,A8,Bh,jg,true_implies] at this;simp only[xg,false_implies,implies_true,true_and];rw[←this];constructor
 ·intro hh i hi
  have:=hh i (uw.2 hi);simpa using this
 ·intro hh i hi
  simp[hh i (uw.1 hi)]
end Go.Proofs.YtfeejeflmcapoaaGreatDoor
