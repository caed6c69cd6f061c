import Derived.Test.YtfeejeflmcapoaaGreatDoorM9
set_option linter.unusedSimpArgs false
set_option linter.unusedVariables false
set_option maxHeartbeats 4000000
set_option maxRecDepth 20000
namespace Go.Proofs.YtfeejeflmcapoaaGreatDoor
open Go.RowKit
def Lu (ks:List dw):Nat->List Int
 | 0=>[]
 | k+1=>Lu ks k++[match ks[k]? with|some x=>sumF (x.body.length+1) (costs x.ay (Lu ks k) x.body)|none=>0]
theorem Pm (ks:List dw) (k:Nat):(Lu ks k).length=k:=by
 induction k with
 | zero=>rfl
 | succ k ih=>rw[Lu,jh,ih];rfl
theorem avi (ks:List dw) (k:Nat):∀x,x∈Lu ks k->0<=x/\x<=400001:=by
 induction k with
 | zero=>intro x h;simp[Lu] at h
 | succ k ih =>
  intro x h;rw[Lu,Dx,yt] at h;rcases h with h|rfl
  ·exact ih x h
  ·cases ks[k]? with
   | none=>simp
   | some y=>exact akd _ _ (ahw _ _ _ ih)
def anf (ks:List dw):Prop:=∀i (hi:i<ks.length),Em (ks[i].body.length+1) (jm ks[i].body) 0=true/\∀s,s∈ks[i].body->s.kind=3->0<=s.at_/\s.at_<(ks[i].ay.length:Int)
theorem aym (ks:List dw) (h1:ajd ks) (h2:anf ks) (i:Nat) (hi:i<ks.length):aqv ks[i].ay (Lu ks i) ks[i].body:=fun s hs h3=>by
 obtain⟨e1,e2⟩:=(h2 i hi).2 s hs h3;obtain⟨ia,ha⟩:=Ht e1;have hl:ia<ks[i].ay.length:=by omega
 obtain⟨g1,g2⟩:=(h1 i hi).2.2 ia hl;obtain⟨gi,hg⟩:=Ht g1;refine⟨ia,gi,ha,hl,?_,by rw[Pm];omega⟩;rw[yw,jy hl];exact hg
theorem ap1 (ks:List dw) (v:Value) (w:cu) (h1:jc 7 160 C9 0 w v ks) (hio:ajd ks) (Fe:anf ks) (hnn:ks.length<=200) :
  Calls Tryz.prog 54 #[.agg #[v]] w fun e w'=>∃v,e=.returned v/\jc 1 8 Jv 0 w' v (Lu ks ks.length)/\Below w.heap.size w w':=by
 obtain⟨b0,c0,rfl⟩:=h1.shape;obtain⟨_,_,hv0,_,_,hx⟩:=h1;simp only[qw] at hv0;obtain⟨rfl,_,rfl⟩:=hv0;have HX:=ak hx;have HCK:=ak (aym ks hio Fe);have HBO:=ak Fe;clear hx hio Fe;have P0:=ak ((iq w.heap.size w).alloc (gu _) (.cells #[.slice b0 ks.length c0] 24))
 have O0:Hid (En ((w.alloc (.cells #[.slice b0 ks.length c0] 24)).alloc (.cells #[] 3)) (w.heap.size+1) (w.heap.size+1) 0 []):=by
  have:=En.start (w.alloc (.cells #[.slice b0 ks.length c0] 24)) (w.heap.size+1) (by simp);show En _ _ _ _ _;simpa using this
 go_enter Tryz.func54,Tryz.ntmps54;go_wp2
 go_loopg [3,10] ks.length (fun gh wv i wr=>∃(k g cap:Nat),k<=ks.length/\gh=ks.length-k/\i=.int .i64 k/\wv=.slice (some ⟨g,0,none⟩) k cap/\En wr (w.heap.size+1) g cap (Lu ks k)/\Below (w.heap.size+1) (w.alloc (.cells #[.slice b0 ks.length c0] 24)) wr)
 case atStart=>exact⟨0,w.heap.size+1,0,jg _,by omega,rfl,rfl,uh O0,(iq _ _).alloc (by simp) _⟩
 case round =>
  obtain⟨k,g,cap,hk,hg,rfl,rfl,hown,aej⟩:=hrel;rename cu=>wN;have HG:=ak hg;have HOW:=ak hown;have Vf:=ak aej;have BN:Hid (Below w.heap.size w wN):=(uh P0).trans (aej.mono (Nat.le_succ _));have hgN:=hown.lt;have hgb:=hown.base;have hNs:w.heap.size+1<=wN.heap.size:=by have:=aej.size;simpa using this
  have HWL:=ak (Pm ks k);have HBD:=ak (avi ks k);have HD:=ak (hown.at (fun x hx=>by have:=avi ks k x hx;exact⟨rfl,by omega,by omega⟩) (by rw[Pm];omega));clear hg hown aej
  by_cases hlt:k<ks.length
  case neg =>
   have e:k=ks.length:=by omega
   subst e;go_wp2;go_ret;refine⟨_,rfl,?_,uh BN⟩;have:=uh HD;rw[uh HWL] at this;exact this
  obtain⟨b,o,cs,Fe,_,hb,hcs,hc,hR⟩:=uh HX k hlt;subst Fe;have hR:=D9.stays _ _ _ _ _ (uh BN) hR;have hc:∀j (hj:j<cs.length),wN.cell? ⟨b,o+k*7+j,none⟩=some cs[j]:=fun j hj=>by rw[(uh BN).cell (p:=⟨b,_,none⟩) hb];exact hc j hj
  have Qb:=ak (uh HCK k hlt);have HNE:=ak (uh HBO k hlt).1
  have Oc:Hid (Lu ks (k+1)=Lu ks k++[sumF (ks[k].body.length+1) (costs ks[k].ay (Lu ks k) ks[k].body)]):=by
   show Lu ks (k+1)=_;rw[Lu,jy hlt]
  have hsb:=akd (ks[k].body.length+1) (costs ks[k].ay (Lu ks k) ks[k].body) (ahw _ _ _ (uh HBD));generalize ks[k]=nd at *;obtain⟨s,ins,au,iw,gq,ay,body⟩:=nd;obtain⟨v1,v2,v3,v4,v5,v6,rfl,hsn,q1,q2,q3,q4,q5,q6⟩:=hR;simp only at hsn q1 q2 q3 q4 q5 q6 Qb HNE Oc hsb;obtain⟨b1,c1,rfl⟩:=q1.shape;obtain⟨b2,c2,rfl⟩:=q2.shape;obtain⟨b3,c3,rfl⟩:=q3.shape;obtain⟨b4,c4,rfl⟩:=q4.shape;obtain⟨b5,c5,rfl⟩:=q5.shape;obtain⟨b6,c6,rfl⟩:=q6.shape;have y0:=hc 0 (by simp);have y1:=hc 1 (by simp);have y2:=hc 2 (by simp);have y3:=hc 3 (by simp);have y4:=hc 4 (by simp);have y5:=hc 5 (by simp);have y6:=hc 6 (by simp);simp only[jr,ji,og,ou] at y0 y1 y2 y3 y4 y5 y6
  have Yc:Hid (Calls Tryz.prog 87 #[.agg #[.string s,.slice b1 ins.length c1,.slice b2 au.length c2,.slice b3 iw.length c3,.slice b4 gq.length c4,.slice b5 ay.length c5,.slice b6 body.length c6],.slice b6 body.length c6,.slice (some ⟨g,0,none⟩) k cap] (wN.alloc (.cells #[.string s,.slice b1 ins.length c1,.slice b2 au.length c2,.slice b3 iw.length c3,.slice b4 gq.length c4,.slice b5 ay.length c5,.slice b6 body.length c6] 50)) fun e w'=>e=.returned (.int .i64 (sumF (body.length+1) (costs ay (Lu ks k) body)))/\Below wN.heap.size wN w'):=by
   have hba:Below wN.heap.size wN (wN.alloc (.cells #[.string s,.slice b1 ins.length c1,.slice b2 au.length c2,.slice b3 iw.length c3,.slice b4 gq.length c4,.slice b5 ay.length c5,.slice b6 body.length c6] 50)):=(iq _ _).alloc (gu _) _;have hk:=(uh HD).stays E8 hba;have h:=ayn s ay (Lu ks k) b1 b2 b3 b4 b5 b6 (some ⟨g,0,none⟩) ins.length au.length iw.length gq.length body.length c1 c2 c3 c4 c5 c6 cap (uh HBD) (body.length+1) body _ 0 _ (q6.stays Px hba) (q5.stays E8 hba) hk (uh Qb) (Sl _) (uh HNE);rw[uh HWL] at h;refine h.mono ?_;rintro e w' ⟨rfl,hb'⟩;exact⟨rfl,hba.trans (hb'.mono (by simp))⟩
  clear q1 q2 q3 q4 q5 q6 hc hcs HD HX Qb HNE HCK HBO;generalize sumF (body.length+1) (costs ay (Lu ks k) body)=sm at *;go_wp2_with fail;refine(uh Yc).mono ?_;rintro e wq ⟨rfl,hbq⟩;have hz:=hbq.size;have HQ:=ak ((uh Vf).trans (hbq.mono hNs));have HOQ:=ak ((uh HOW).below hbq);have ang:Hid (En (wq.alloc (.cells #[.int .i64 sm] 3)) (w.heap.size+1) g cap (Lu ks k)):=(uh HOQ).below ((iq _ _).alloc (gu _) _);have Wj:Hid (Below (w.heap.size+1) _ (wq.alloc (.cells #[.int .i64 sm] 3))):=(uh HQ).trans ((iq _ _).alloc (by omega) _);have HZ:=ak hz;clear hz hbq Yc y0 y1 y2 y3 y4 y5 y6;go_wp2_with (at_builtin;go_must (refine Sr _ rfl _ _ rfl (w.heap.size+1) g cap (Lu ks k) (by rw[uh HWL];rfl) (uh ang) wq.heap.size sm rfl (by rw[zu _ _ _ _ rfl];rfl) (by rw[uh HWL];omega) (by have:=uh HZ;simp;omega) ?_));intro g' cap' w7 J6 Sv;have B7:=V6 (uh Wj) Sv (by have:=uh HZ;simp;omega) hgb;rw[←uh Oc] at J6;have Xd:=ak J6;have Zn:=ak B7;rw[uh HWL];clear J6 Sv B7;go_wp2
  go_roundg (ks.length-(k+1))
  case measure=>have:=uh HG;omega
  case rel=>exact⟨k+1,g',cap',by omega,rfl,by go_num,rfl,uh Xd,uh Zn⟩
def Qc (vars:List dh) (i:Nat):Bool:=match vars[i]? with|some x=>!nameB x||decide (je vars x<(i:Int))|none=>false
def Wy (v:Int):Bool:=v==IntKind.i32.wrap v
def Ui (body:List lu) (i:Nat):Bool:=match body[i]? with
 | none=>false
 | some s=>s.kind==4&&(List.range (uo (jm body) i).2.toNat).any (fun j=>decide (i<=j)&&(match body[j]? with|some t=>Wn t s.name|none=>false))
def Gw (ks:List dw) (i:Nat):Bool:=match ks[i]? with
 | none=>false
 | some k=>(nameB k.name&&decide (1<=k.au.length)&&decide (k.gq.length<=1000)&&decide (k.ay.length<=1000)&&decide (k.body.length<=30000))
  && ((List.range i).all (fun j=>!(match ks[j]? with|some y=>y.name.toList==k.name.toList|none=>false))
  && (decide ((varsOf k).length<=1000)
  && ((List.range (varsOf k).length).all (fun j=>!Qc (varsOf k) j)
  && ((k.ins++k.au).all (fun t=>decide (1<=t.type/\t.type<=2))
  && (k.gq.all Wy
  && (k.ay.all (fun g=>decide (0<=g/\g<(i:Int)))
  && (k.body.all (yg ks k)
  && (Em (k.body.length+1) (jm k.body) 0
  && (List.range k.body.length).all (fun j=>!Ui k.body j)))))))))
def Pn (ks:List dw):Bool:=decide (1<=ks.length/\ks.length<=200)&&((List.range ks.length).all (Gw ks)&&((Ij ks ks.length).all (fun n=>decide (n<=20000))&&(Lu ks ks.length).all (fun n=>decide (n<=400000))))
theorem ayo (ks:List dw) (k:dw) (s:lu) (h:yg ks k s=true) (h3:s.kind=3):0<=s.at_/\s.at_<(k.ay.length:Int):=by
 have hc:V7 ks k s=true:=by
  unfold yg at h;rw[h3] at h;simp only at h
  split at h
  ·cases h
  split at h
  ·rename_i hh;exact absurd rfl hh.2.1
  split at h
  ·rename_i hh;exact absurd rfl hh.1
  split at h
  ·cases h
  simpa using h
 unfold V7 at hc
 split at hc
 ·cases hc
 ·omega
theorem ap2 (ks:List dw) (h:∀i,i<ks.length->Gw ks i=true):ajd ks/\anf ks:=by
 have hh:∀i (hi:i<ks.length),(ks[i].gq.length<=1000/\ks[i].ay.length<=1000/\∀q (hq:q<ks[i].ay.length),0<=ks[i].ay[q]/\ks[i].ay[q]<(i:Int))/\Em (ks[i].body.length+1) (jm ks[i].body) 0=true/\∀s,s∈ks[i].body->yg ks ks[i] s=true:=fun i hi=>by
  have h0:=h i hi;unfold Gw at h0;rw[jy hi] at h0;simp only[uy,yc] at h0;obtain⟨⟨⟨⟨_,a1⟩,a2⟩,_⟩,_,_,_,_,_,a3,a4,a5,_⟩:=h0;refine⟨⟨xw a1,xw a2,fun q hq=>?_⟩,a5,a4⟩;have:=a3 ks[i].ay[q] (o7 hq);exact xw this
 exact⟨fun i hi=>(hh i hi).1,fun i hi=>⟨(hh i hi).2.1,fun s hs h3=>ayo ks ks[i] s ((hh i hi).2.2 s hs) h3⟩⟩
def alq (ks:List dw) (v:Value) (w:cu):Prop:=∀i,i<ks.length->∀w',Below w.heap.size w w'->Calls Tryz.prog 52 #[.agg #[v],.int .i64 (i:Int)] w' (Ans (.bool (Gw ks i)) w')
theorem anh (ks:List dw) (v:Value) (w:cu) (hv:jc 7 160 C9 0 w v ks) (hcl:alq ks v w) :
  Calls Tryz.prog 23 #[.agg #[v]] w (Ans (.bool (Pn ks)) w):=by
 have HV:=ak hv;have Qb:=ak hcl;have hlm:=hv.Bh;obtain⟨b0,c0,rfl⟩:=hv.shape;clear hv hcl;have hA:Below w.heap.size w (w.alloc (.cells #[.slice b0 ks.length c0] 24)):=(iq _ _).alloc (gu _) _;have U2:jd (w.alloc (.cells #[.slice b0 ks.length c0] 24)) w.heap.size 24 #[.slice b0 ks.length c0]:=oh w #[.slice b0 ks.length c0] 24;obtain⟨BX,mg⟩:∃BX:cu->Prop,∀w',BX w'↔Below (w.heap.size+1) (w.alloc (.cells #[.slice b0 ks.length c0] 24)) w':=⟨_,fun _=>Iff.rfl⟩;have Xe:(w.alloc (.cells #[.slice b0 ks.length c0] 24)).heap.size=w.heap.size+1:=by simp
 have Ag:Hid (∀w1,BX w1->Below w.heap.size w w1):=fun w1 h=>hA.trans (((mg w1).1 h).mono (by omega))
 have F8:Hid (∀w1 w2,BX w1->Below w1.heap.size w1 w2->BX w2):=fun w1 w2 h h2=>(mg w2).2 (((mg w1).1 h).trans (h2.mono (by have:=((mg w1).1 h).size;omega)))
 have Jo:Hid (∀w1,BX w1->w1.cell? ⟨w.heap.size,0,none⟩=some (.slice b0 ks.length c0)):=fun w1 h=>(U2.below ((mg w1).1 h) (by omega)).cell (i:=0) (v:=.slice b0 ks.length c0) rfl
 have HX0:Hid (BX (w.alloc (.cells #[.slice b0 ks.length c0] 24))):=(mg _).2 (iq _ _);have HA:=ak hA;clear hA U2 mg Xe;have HM:Hid (Pn ks=(decide (1<=ks.length/\ks.length<=200)&&((List.range ks.length).all (Gw ks)&&((Ij ks ks.length).all (fun n=>decide (n<=20000))&&(Lu ks ks.length).all (fun n=>decide (n<=400000)))))):=rfl;generalize Pn ks=R at *
 by_cases h1:(ks.length:Int)<1
 ·have e1:decide ((ks.length:Int)<1)=true:=jf h1
  have HF:Hid (R=false):=(uh HM).trans (by rw[iy (by omega),Aw]);clear HM;go_enter Tryz.func23,Tryz.ntmps23;go_wp2;go_ret;exact⟨qm (uh HF).symm,uh HA⟩
 have e1:decide ((ks.length:Int)<1)=false:=iy h1
 by_cases h2:200<(ks.length:Int)
 ·have e2:decide (200<(ks.length:Int))=true:=jf h2
  have HF:Hid (R=false):=(uh HM).trans (by rw[iy (by omega),Aw]);clear HM;go_enter Tryz.func23,Tryz.ntmps23;go_wp2;go_ret;exact⟨qm (uh HF).symm,uh HA⟩
 have e2:decide (200<(ks.length:Int))=false:=iy h2;have HM2:Hid (R=((List.range ks.length).all (Gw ks)&&((Ij ks ks.length).all (fun n=>decide (n<=20000))&&(Lu ks ks.length).all (fun n=>decide (n<=400000))))):=(uh HM).trans (by rw[jf ⟨by omega,by omega⟩,Ak]);have ayp:ks.length<=200:=by omega
 clear HM h1 h2;go_enter Tryz.func23,Tryz.ntmps23;go_wp2
 go_loopg [21] ks.length (fun g iv wr=>∃(i:Nat),i<=ks.length/\g=ks.length-i/\iv=.int .i64 i/\(∀j,j<i->Gw ks j=true)/\BX wr)
 case atStart=>exact⟨0,jg _,by omega,rfl,fun j hj=>absurd hj (yu _),uh HX0⟩
 case round =>
  obtain⟨i,hi,hg,rfl,hno,hbx⟩:=hrel;rename cu=>wr;have HG:=ak hg;have Bo:=ak hno;have D5:=ak hbx;have q0:=uh Jo _ hbx;clear hg hno hbx
  by_cases hlt:i<ks.length
  ·have Ap:=ak (uh Qb i hlt wr (uh Ag _ (uh D5)))
   have HN:Hid (Gw ks i=false->R=false):=fun h=>(uh HM2).trans (by rw[show (List.range ks.length).all (Gw ks)=false from (by rw[List.all_eq_false];exact⟨i,uz.2 hlt,by simp[h]⟩),Aw])
   have HY:Hid (Gw ks i=true->∀j,j<i+1->Gw ks j=true):=fun h j hji=>by
    by_cases e:j=i
    ·subst e;exact h
    ·exact uh Bo j (by omega)
   have hlt':(i:Int)<(ks.length:Int):=by omega
   generalize Gw ks i=cb at *
   cases cb
   ·have HF:=ak (uh HN rfl)
    clear HN HY;go_wp2_with fail;refine(uh Ap).mono ?_;rintro e w5 ⟨rfl,hb5⟩;have HB:=ak (uh Ag _ (uh F8 _ _ (uh D5) hb5));clear hb5;go_wp2;go_ret;exact⟨qm (uh HF).symm,uh HB⟩
   ·have Lr:=ak (uh HY rfl)
    clear HN HY;go_wp2_with fail;refine(uh Ap).mono ?_;rintro e w5 ⟨rfl,hb5⟩;have HB:=ak (uh F8 _ _ (uh D5) hb5);clear hb5;go_wp2
    go_roundg (ks.length-(i+1))
    case measure=>have:=uh HG;omega
    case rel=>exact⟨i+1,by omega,rfl,by go_num,uh Lr,uh HB⟩
  ·have e:i=ks.length:=by omega
   subst e;have HOK:=ak (ap2 ks (uh Bo));have HM3:Hid (R=((Ij ks ks.length).all (fun n=>decide (n<=20000))&&(Lu ks ks.length).all (fun n=>decide (n<=400000)))):=(uh HM2).trans (by rw[show (List.range ks.length).all (Gw ks)=true from (by rw[yc];exact fun j hj=>uh Bo j (uz.1 hj)),Ak]);have Ap:=ak (asj ks _ wr ((uh HV).stays D9 (uh Ag _ (uh D5))) (uh HOK).1 ayp);have hcl0:=N8 ks ks.length;clear HM2 Bo HG;go_wp2_with fail;refine(uh Ap).mono ?_;rintro e w5 ⟨lv,rfl,hSL,hb5⟩;have hx5:=uh F8 _ _ (uh D5) hb5;have Gx:=ak hx5;clear hb5 hx5 Ap D5;obtain⟨la,lc,rfl⟩:=hSL.shape
   have HLE:Hid (∀i (hi:i<(Ij ks ks.length).length),∃b o,la=some ⟨b,o,none⟩/\w5.cell? ⟨b,o+i,none⟩=some (.int .i64 (Ij ks ks.length)[i])):=fun i hi=>by
    obtain⟨_,_,Ja,_,_,Fh⟩:=hSL;simp only[qw] at Ja;obtain⟨rfl,_,rfl⟩:=Ja;obtain⟨b,o,cs,rfl,_,hb,_,hc,⟨rfl,hr⟩⟩:=Fh i hi;refine⟨b,o,rfl,?_⟩;have h0:=hc 0 (by simp);rw[jr,ji] at h0;exact h0
   have hll:=hSL.Bh;clear hSL;generalize hcs:Ij ks ks.length=cl at *;clear hcs hcl0;go_wp2
   go_loopg [32] cl.length (fun g iv wr=>∃(i:Nat),i<=cl.length/\g=cl.length-i/\iv=.int .i64 i/\(∀j (hj:j<cl.length),j<i->decide (cl[j]<=20000)=true)/\wr=w5)
   case atStart=>exact⟨0,jg _,by omega,rfl,fun j _ hj=>absurd hj (yu _),rfl⟩
   case round =>
    obtain⟨i,hi,hg,rfl,hno,rfl⟩:=hrel;have HG:=ak hg;have Bo:=ak hno;clear hg hno
    by_cases hlt:i<cl.length
    ·obtain⟨b,o,rfl,x0⟩:=uh HLE i hlt
     have HN:Hid (¬cl[i]<=20000->R=false):=fun h=>(uh HM3).trans (by rw[aar i hlt (iy h),Aw])
     have HY:Hid (cl[i]<=20000->∀j (hj:j<cl.length),j<i+1->decide (cl[j]<=20000)=true):=fun h j hj hji=>by
      by_cases e:j=i
      ·subst e;exact jf h
      ·exact uh Bo j hj (by omega)
     have hlt':(i:Int)<(cl.length:Int):=by omega
     generalize cl[i]=n at *
     by_cases hn:20000<n
     ·have f1:decide (20000<n)=true:=jf hn
      have HF:=ak (uh HN (by omega));have HB:=ak (uh Ag _ (uh Gx));clear HN HY;go_wp2;go_ret;exact⟨qm (uh HF).symm,uh HB⟩
     ·have f1:decide (20000<n)=false:=iy hn
      have Lr:=ak (uh HY (by omega));clear HN HY;go_wp2
      go_roundg (cl.length-(i+1))
      case measure=>have:=uh HG;omega
      case rel=>exact⟨i+1,by omega,rfl,by go_num,uh Lr,rfl⟩
    ·have e:i=cl.length:=by omega
     subst e;have HM4:Hid (R=(Lu ks ks.length).all (fun n=>decide (n<=400000))):=(uh HM3).trans (by rw[Yd (fun j hj=>uh Bo j hj hj),Ak]);have q5:=uh Jo _ (uh Gx);have HC2:=ak (ap1 ks _ _ ((uh HV).stays D9 (uh Ag _ (uh Gx))) (uh HOK).1 (uh HOK).2 ayp);clear HM3 Bo HG HLE hi;go_wp2_with fail;refine(uh HC2).mono ?_;rintro e w6 ⟨lv,rfl,hSL,hb6⟩;have hx6:=uh F8 _ _ (uh Gx) hb6;have Wp:=ak (uh Ag _ hx6);clear hb6 hx6 HC2;obtain⟨ma,mc,rfl⟩:=hSL.shape
     have HLE:Hid (∀i (hi:i<(Lu ks ks.length).length),∃b o,ma=some ⟨b,o,none⟩/\w6.cell? ⟨b,o+i,none⟩=some (.int .i64 (Lu ks ks.length)[i])):=fun i hi=>by
      obtain⟨_,_,Ja,_,_,Fh⟩:=hSL;simp only[qw] at Ja;obtain⟨rfl,_,rfl⟩:=Ja;obtain⟨b,o,cs,rfl,_,hb,_,hc,⟨rfl,hr⟩⟩:=Fh i hi;refine⟨b,o,rfl,?_⟩;have h0:=hc 0 (by simp);rw[jr,ji] at h0;exact h0
     have hml:=hSL.Bh;clear hSL;generalize Lu ks ks.length=bl at *;go_wp2
     go_loopg [42] bl.length (fun g iv wr=>∃(i:Nat),i<=bl.length/\g=bl.length-i/\iv=.int .i64 i/\(∀j (hj:j<bl.length),j<i->decide (bl[j]<=400000)=true)/\wr=w6)
     case atStart=>exact⟨0,jg _,by omega,rfl,fun j _ hj=>absurd hj (yu _),rfl⟩
     case round =>
      obtain⟨i,hi,hg,rfl,hno,rfl⟩:=hrel;have HG:=ak hg;have Bo:=ak hno;clear hg hno
      by_cases hlt:i<bl.length
      ·obtain⟨b,o,rfl,x0⟩:=uh HLE i hlt
       have HN:Hid (¬bl[i]<=400000->R=false):=fun h=>(uh HM4).trans (aar i hlt (iy h))
       have HY:Hid (bl[i]<=400000->∀j (hj:j<bl.length),j<i+1->decide (bl[j]<=400000)=true):=fun h j hj hji=>by
        by_cases e:j=i
        ·subst e;exact jf h
        ·exact uh Bo j hj (by omega)
       have hlt':(i:Int)<(bl.length:Int):=by omega
       generalize bl[i]=n at *
       by_cases hn:400000<n
       ·have f1:decide (400000<n)=true:=jf hn
        have HF:=ak (uh HN (by omega));clear HN HY;go_wp2;go_ret;exact⟨qm (uh HF).symm,uh Wp⟩
       ·have f1:decide (400000<n)=false:=iy hn
        have Lr:=ak (uh HY (by omega));clear HN HY;go_wp2
        go_roundg (bl.length-(i+1))
        case measure=>have:=uh HG;omega
        case rel=>exact⟨i+1,by omega,rfl,by go_num,uh Lr,rfl⟩
      ·have e:i=bl.length:=by omega
       subst e;have HF:Hid (R=true):=(uh HM4).trans (Yd (fun j hj=>uh Bo j hj hj));go_wp2;go_ret;exact⟨qm (uh HF).symm,uh Wp⟩
structure PL where
  o : Option (lu × PL × Option (lu × PL × lu × PL))
abbrev PL.nil : PL := ⟨none⟩
abbrev PL.leaf (s : lu) (r : PL) : PL := ⟨some (s, r, none)⟩
abbrev PL.br (s : lu) (a : PL) (el : lu) (b : PL) (en : lu) (r : PL) : PL := ⟨some (s, r, some (el, a, en, b))⟩
theorem PL.ind {motive : PL → Prop} (nil : motive .nil) (leaf : ∀ s r, motive r → motive (.leaf s r)) (br : ∀ s a el b en r, motive a → motive b → motive r → motive (.br s a el b en r)) : ∀ t, motive t
  | ⟨none⟩ => nil
  | ⟨some (s, r, none)⟩ => leaf s r (PL.ind nil leaf br r)
  | ⟨some (s, r, some (el, a, en, b))⟩ => br s a el b en r (PL.ind nil leaf br a) (PL.ind nil leaf br b) (PL.ind nil leaf br r)
theorem PL.inv {motive : PL → Prop} (t : PL) (nil : motive .nil) (leaf : ∀ s r, motive (.leaf s r)) (br : ∀ s a el b en r, motive (.br s a el b en r)) : motive t := PL.ind nil (fun s r _ => leaf s r) (fun s a el b en r _ _ _ => br s a el b en r) t
def PL.flat:PL->List lu
 | ⟨none⟩=>[]
 | ⟨some (s, r, none)⟩=>s::r.flat
 | ⟨some (s, r, some (el, a, en, b))⟩=>s::(a.flat++el::(b.flat++en::r.flat))
def PL.wf:PL->Prop
 | ⟨none⟩=>True
 | ⟨some (s, r, none)⟩=>(s.kind≠4/\s.kind≠5/\s.kind≠6)/\r.wf
 | ⟨some (s, r, some (el, a, en, b))⟩=>(s.kind=4/\el.kind=5/\en.kind=6)/\a.wf/\b.wf/\r.wf
def PL.deep:PL->Int->Prop
 | ⟨none⟩,_=>True
 | ⟨some (_, r, none)⟩,d=>d<=20/\r.deep d
 | ⟨some (_, r, some (_, a, _, b))⟩,d=>d<=20/\a.deep (d+1)/\b.deep (d+1)/\r.deep d
def PL.cost (kn:lu->Int):PL->Int->Int
 | ⟨none⟩,s=>s
 | ⟨some (st, r, none)⟩,s=>r.cost kn (Ll (s+(if st.kind=3 then 1+kn st else 1)))
 | ⟨some (_, r, some (_, a, _, b))⟩,s=>r.cost kn (Ll (s+(1+maxS (a.cost kn 0) (b.cost kn 0))))
def PL.free:PL->List dh->Prop
 | ⟨none⟩,_=>True
 | ⟨some (s, r, none)⟩,H=>(∀x,x∈H->Wn s x=false)/\r.free H
 | ⟨some (s, r, some (_, a, _, b))⟩,H=>a.free (s.name::H)/\b.free (s.name::H)/\r.free H
def PL.Xt:PL->Prop
 | ⟨none⟩=>True
 | ⟨some (_, r, none)⟩=>r.Xt
 | ⟨some (s, r, some (_, a, _, b))⟩=>((∀u,u∈a.flat->Wn u s.name=false)/\∀u,u∈b.flat->Wn u s.name=false)/\a.Xt/\b.Xt/\r.Xt
theorem Qy (s:lu) (l:List lu):jm (s::l)=s.kind::jm l:=rfl
theorem afr (l m:List lu):jm (l++m)=jm l++jm m:=Ig
theorem Jp (l:List lu):(jm l).length=l.length:=zy _
theorem ani (t:PL):∀(rest:List Int) (j:Nat) (d o:Int),t.wf->1<=d->Jq (jm t.flat++rest) j d o=Jq rest (j+t.flat.length) d o:=by
 induction t using PL.ind with
 | nil=>intro rest j d o _ _;simp[PL.flat,jm]
 | leaf s r ih =>
  intro rest j d o h hd;obtain⟨⟨h4,h5,h6⟩,hr⟩:=h;simp only[PL.flat,Qy,Ew,ug];rw[Jq,bf h4,bf h5,bf h6,ih _ _ _ _ hr hd];congr 1;omega
 | br s a el b en r iha ihb ihr =>
  intro rest j d o h hd;obtain⟨⟨h4,h5,h6⟩,ha,hb,hr⟩:=h;simp only[PL.flat,Qy,afr,Ew,Gl,ug,jh];rw[Jq,gy h4,iha _ _ _ _ ha (by omega),Jq,bf (by omega),gy h5,bf (by omega),ihb _ _ _ _ hb (by omega),Jq,bf (by omega),bf (by omega),gy h6,bf (by omega),ihr _ _ _ _ hr (by omega)];congr 1<;>omega
theorem ahx (ks:List Int) (i:Nat) (a b:PL) (post:List Int) (ha:a.wf) (hb:b.wf) (h:ks.drop i=4::(jm a.flat++5::(jm b.flat++6::post))) :
  uo ks i=(((i+1+a.flat.length:Nat):Int),((i+1+a.flat.length+1+b.flat.length:Nat):Int)):=by
 unfold uo;rw[h,Jq,gy rfl,ani a _ _ _ _ ha (by omega),Jq,bf (by omega),gy rfl,gy (by omega),bf (by omega),ani b _ _ _ _ hb (by omega),Jq,bf (by omega),bf (by omega),gy rfl,gy (by omega)]
theorem agz {α:Type} (pre:List α) (x:α) (A R:List α) (i:Nat) (hi:i=pre.length) (q:Nat) (hq:q=i+1+A.length):wz (pre++x::(A++R)) (i+1) q=A:=by
 subst hi hq;unfold wz
 have e:(pre++x::(A++R)).drop (pre.length+1)=A++R:=by
  rw[List.drop_append];simp
 rw[e,show pre.length+1+A.length-(pre.length+1)=A.length by omega,List.take_left]
theorem adn (pre l:List Int):(pre++l).drop pre.length=l:=List.drop_left
theorem ayq (t:PL):∀(f n:Nat) (pre:List Int) (d:Int),t.wf->t.deep d->t.flat.length<=f->t.flat.length<n->Rz (Em f) (pre++jm t.flat) d n pre.length=true:=by
 induction t using PL.ind with
 | nil =>
  intro f n pre d _ _ _ _;have:=alr (Em f) pre d n;simpa[PL.flat,jm] using this
 | leaf s r ih =>
  intro f n pre d h hd hf hn;obtain⟨⟨h4,h5,h6⟩,hr⟩:=h;simp only[PL.flat,ug] at hf hn;obtain⟨n,rfl⟩:∃m,n=m+1:=⟨n-1,by omega⟩;rw[Yz _ _ _ _ _ (by simp[PL.flat,Qy])];have e:(pre++jm (PL.leaf s r).flat)[pre.length]'(by simp[PL.flat,Qy])=s.kind:=by simp[PL.flat,Qy]
  rw[e,bf (by omega),bf h4];have:=ih f n (pre++[s.kind]) d hr hd.2 (by omega) (by omega);simpa[PL.flat,Qy] using this
 | br s a el b en r iha ihb ihr =>
  intro f n pre d h hd hf hn;obtain⟨⟨h4,h5,h6⟩,ha,hb,hr⟩:=h;obtain⟨hd0,hda,hdb,hdr⟩:=hd;simp only[PL.flat,ug,jh] at hf hn;obtain⟨n,rfl⟩:∃m,n=m+1:=⟨n-1,by omega⟩;obtain⟨f,rfl⟩:∃m,f=m+1:=⟨f-1,by omega⟩
  have ek:pre++jm (PL.br s a el b en r).flat=pre++4::(jm a.flat++5::(jm b.flat++6::jm r.flat)):=by
   simp[PL.flat,Qy,afr,h4,h5,h6]
  rw[ek];rw[Yz _ _ _ _ _ (by simp)];have e:(pre++4::(jm a.flat++5::(jm b.flat++6::jm r.flat)))[pre.length]'(by simp)=4:=by simp
  rw[e,bf (by omega),gy rfl,ahx _ _ a b (jm r.flat) ha hb (adn _ _)];rw[bf (by omega)]
  have hin:¬((((pre.length:Nat):Int)+1<((pre.length+1+a.flat.length:Nat):Int)\/((pre.length+1+a.flat.length:Nat):Int)+1<((pre.length+1+a.flat.length+1+b.flat.length:Nat):Int))/\20<d+1):=by
   rintro⟨h1|h1,h2⟩
   ·cases a using PL.inv with
    | nil=>simp[PL.flat] at h1
    | leaf _ _=>have:=hda.1;omega
    | br _ _ _ _ _ _=>have:=hda.1;omega
   ·cases b using PL.inv with
    | nil=>simp[PL.flat] at h1
    | leaf _ _=>have:=hdb.1;omega
    | br _ _ _ _ _ _=>have:=hdb.1;omega
  rw[bf hin];simp only[Ed];rw[agz pre 4 (jm a.flat) _ pre.length rfl _ (by rw[Jp])]
  have e2:wz (pre++4::(jm a.flat++5::(jm b.flat++6::jm r.flat))) (pre.length+1+a.flat.length+1) (pre.length+1+a.flat.length+1+b.flat.length)=jm b.flat:=by
   have:=agz (pre++4::jm a.flat) 5 (jm b.flat) (6::jm r.flat) (pre.length+1+a.flat.length) (by simp[Jp];omega) (pre.length+1+a.flat.length+1+b.flat.length) (by rw[Jp]);simpa using this
  rw[e2]
  have ra:Em (f+1) (jm a.flat) (d+1)=true:=by
   have:=iha f ((jm a.flat).length+1) [] (d+1) ha hda (by omega) (by rw[Jp];omega);simpa[Em] using this
  have rb:Em (f+1) (jm b.flat) (d+1)=true:=by
   have:=ihb f ((jm b.flat).length+1) [] (d+1) hb hdb (by omega) (by rw[Jp];omega);simpa[Em] using this
  rw[ra,rb];simp only[Bool.true_eq_false,if_false];have:=ihr (f+1) n (pre++4::(jm a.flat++5::(jm b.flat++[6]))) d hr hdr (by omega) (by omega);have el:(pre++4::(jm a.flat++5::(jm b.flat++[6]))).length=pre.length+1+a.flat.length+1+b.flat.length+1:=by simp[Jp];omega
  rw[el] at this;simpa using this
theorem avj (ks:List Int):∀(j:Nat) (d o:Int),0<=(Jq ks j d o).2->(∃e:Nat,(Jq ks j d o).2=(j+e:Nat)/\ks[e]?=some 6)/\((Jq ks j d o).1=o\/∃e:Nat,(Jq ks j d o).1=(j+e:Nat)/\ks[e]?=some 5):=by
 induction ks with
 | nil=>intro j d o h;simp[Jq] at h
 | cons kd r ih =>
  have up:∀(j:Nat) (d o o':Int),0<=(Jq r (j+1) d o).2->(o=o'\/∃e:Nat,o=(j+e:Nat)/\(kd::r)[e]?=some 5)->(∃e:Nat,(Jq r (j+1) d o).2=(j+e:Nat)/\(kd::r)[e]?=some 6)/\((Jq r (j+1) d o).1=o'\/∃e:Nat,(Jq r (j+1) d o).1=(j+e:Nat)/\(kd::r)[e]?=some 5):=by
   intro j d o o' h ho;obtain⟨⟨e,h1,h2⟩,h3⟩:=ih (j+1) d o h;refine⟨⟨e+1,by omega,by simpa using h2⟩,?_⟩;rcases h3 with h3|⟨e,h3,h4⟩
   ·rw[h3];exact ho
   ·exact Or.inr ⟨e+1,by omega,by simpa using h4⟩
  intro j d o h;unfold Jq at h ⊢
  split at h<;>rename_i h4
  ·simp only[gy h4];exact up j _ o o h (Or.inl rfl)
  ·simp only[bf h4]
   split at h<;>rename_i h5
   ·simp only[gy h5]
    split at h<;>rename_i hd
    ·simp only[gy hd]
     split at h<;>rename_i ho
     ·simp at h
     ·simp only[bf ho]
      exact up j _ _ o h (Or.inr ⟨0,by simp,by simp[h5]⟩)
    ·simp only[bf hd];exact up j _ o o h (Or.inl rfl)
   ·simp only[bf h5]
    split at h<;>rename_i h6
    ·simp only[gy h6]
     split at h<;>rename_i hd
     ·simp only[gy hd]
      exact⟨⟨0,by simp,by simp[h6]⟩,by simp⟩
     ·simp only[bf hd];exact up j _ o o h (Or.inl rfl)
    ·simp only[bf h6];exact up j _ o o h (Or.inl rfl)
theorem ap3 (ks:List Int) (i:Nat) (h1:0<=(uo ks i).1) (h2:0<=(uo ks i).2):ks[(uo ks i).1.toNat]?=some 5/\ks[(uo ks i).2.toNat]?=some 6:=by
 unfold uo at *;obtain⟨⟨e,h3,h4⟩,h5⟩:=avj (ks.drop i) i 0 (-1) h2;rw[List.getElem?_drop] at h4;constructor
 ·rcases h5 with h5|⟨e,h5,h6⟩
  ·rw[h5] at h1;omega
  ·rw[h5,Ed]
   rw[List.getElem?_drop] at h6;exact h6
 ·rw[h3,Ed];exact h4
theorem avk:∀(f:Nat) (body:List lu) (d:Int),body.length<f->Em f (jm body) d=true->(d<=20\/body=[])->∃t:PL,t.flat=body/\t.wf/\t.deep d:=by
 intro f
 induction f with
 | zero=>intro body d h;omega
 | succ f ihf =>
  intro body d hl h hd;rw[Em] at h
  have main:∀(n i:Nat),i<=body.length->body.length-i<n->Rz (Em f) (jm body) d n i=true->∃t:PL,t.flat=body.drop i/\t.wf/\t.deep d:=by
   intro n
   induction n with
   | zero=>intro i _ h;omega
   | succ n ihn =>
    intro i hi hn hh
    by_cases hlt:i<body.length
    case neg =>
     exact⟨.nil,by rw[List.drop_eq_nil_of_le (by omega)];rfl,trivial,trivial⟩
    have a6r:d<=20:=by
     rcases hd with hd|hd
     ·exact hd
     ·subst hd;simp at hlt
    rw[Yz _ _ _ _ _ (by rw[Jp];exact hlt),Xy body i hlt] at hh
    split at hh
    ·cases hh
    rename_i Y0
    split at hh
    ·rename_i h4
     split at hh
     ·cases hh
     rename_i hneg
     split at hh
     ·cases hh
     rename_i bem
     split at hh
     ·cases hh
     rename_i ra
     split at hh
     ·cases hh
     rename_i rb
     have p1:0<=(uo (jm body) i).1:=by omega
     have p2:0<=(uo (jm body) i).2:=by omega
     have bd:=ahy (jm body) i (by rw[Jp];exact hlt) (by rw[Xy body i hlt];exact h4) p1 p2;have kk:=ap3 (jm body) i p1 p2;rw[Jp] at bd;generalize (uo (jm body) i).1=oI at *;generalize (uo (jm body) i).2=eI at *;obtain⟨o,rfl⟩:=Ht p1;obtain⟨e,rfl⟩:=Ht p2;simp only[Ed] at *;have hoe:i+1<=o/\o<e/\e<body.length:=by omega
     rw[Bool.not_eq_false] at ra rb;rw[jm,←aek] at ra rb
     obtain⟨ta,fa,wa,da⟩:=ihf (wz body (i+1) o) (d+1) (by rw[Rj _ _ _ (by omega) (by omega)];omega) ra (by
      by_cases e1:i+1<o
      ·left;omega
      ·right;apply Sj;rw[Rj _ _ _ (by omega) (by omega)];omega)
     obtain⟨tb,fb,wb,db⟩:=ihf (wz body (o+1) e) (d+1) (by rw[Rj _ _ _ (by omega) (by omega)];omega) rb (by
      by_cases e1:o+1<e
      ·left;omega
      ·right;apply Sj;rw[Rj _ _ _ (by omega) (by omega)];omega)
     obtain⟨tr,fr,wr,dr⟩:=ihn (e+1) (by omega) (by omega) hh
     have k5:body[o].kind=5:=by
      have:=kk.1;rw[jy (by rw[Jp];omega),Xy body o (by omega)] at this;simpa using this
     have k6:body[e].kind=6:=by
      have:=kk.2;rw[jy (by rw[Jp];omega),Xy body e (by omega)] at this;simpa using this
     refine⟨.br body[i] ta body[o] tb body[e] tr,?_,⟨⟨h4,k5,k6⟩,wa,wb,wr⟩,⟨a6r,da,db,dr⟩⟩;simp only[PL.flat];rw[fa,fb,fr,List.drop_eq_getElem_cons hlt];congr 1;have c1:body.drop (o)=body[o]::body.drop (o+1):=List.drop_eq_getElem_cons (by omega);have c2:body.drop (e)=body[e]::body.drop (e+1):=List.drop_eq_getElem_cons (by omega)
     have sp:∀p q:Nat,p<=q->body.drop p=wz body p q++body.drop q:=fun p q hpq=>by
      unfold wz;have:=O8 (q-p) (body.drop p);rw[List.drop_drop,show p+(q-p)=q by omega] at this;exact this.symm
     rw[sp (i+1) o hoe.1,c1,sp (o+1) e (by omega),c2]
    ·rename_i h4
     obtain⟨tr,fr,wr,dr⟩:=ihn (i+1) (by omega) (by omega) hh;refine⟨.leaf body[i] tr,?_,⟨⟨h4,by omega,by omega⟩,wr⟩,⟨a6r,dr⟩⟩;simp only[PL.flat];rw[fr,List.drop_eq_getElem_cons hlt]
  have:=main ((jm body).length+1) 0 (jg _) (by rw[Jp];omega) h;simpa using this
theorem ayr (t:PL) (h:t.wf) (hd:t.deep 0):Em (t.flat.length+1) (jm t.flat) 0=true:=by
 rw[Em];exact ayq t t.flat.length ((jm t.flat).length+1) [] 0 h hd (gu _) (by rw[Jp];omega)
def xg (ay known:List Int) (s:lu):Int:=known.getD (ay.getD s.at_.toNat 0).toNat 0
theorem asl (ay known:List Int) (s:lu) (l:List lu):costs ay known (s::l)=(s.kind,xg ay known s)::costs ay known l:=rfl
theorem avl (ay known:List Int) (l m:List lu):costs ay known (l++m)=costs ay known l++costs ay known m:=Ig
theorem Vg (ay known:List Int) (l:List lu):(costs ay known l).length=l.length:=zy _
theorem ays (ay known:List Int) (t:PL):∀(f n:Nat) (pre:List lu) (s:Int),t.wf->t.flat.length<=f->t.flat.length<n->O5 (sumF f) (costs ay known (pre++t.flat)) n pre.length s=t.cost (xg ay known) s:=by
 induction t using PL.ind with
 | nil =>
  intro f n pre s _ _ _;have:=anj (sumF f) ay known pre n s;simpa[PL.flat,PL.cost] using this
 | leaf st r ih =>
  intro f n pre s h hf hn;obtain⟨⟨h4,h5,h6⟩,hr⟩:=h;simp only[PL.flat,ug] at hf hn;obtain⟨n,rfl⟩:∃m,n=m+1:=⟨n-1,by omega⟩;rw[afs _ _ _ _ _ _ _ (by simp[PL.flat])];have e:(pre++(PL.leaf st r).flat)[pre.length]'(by simp[PL.flat])=st:=by simp[PL.flat]
  rw[e,bf h4];have ih':=fun s=>ih f n (pre++[st]) s hr (by omega) (by omega)
  simp only[Gl,List.singleton_append,jh,N9] at ih';simp only[PL.flat,PL.cost]
  split
  ·rw[ih'];rfl
  ·rw[ih']
 | br st a el b en r iha ihb ihr =>
  intro f n pre s h hf hn;obtain⟨⟨h4,h5,h6⟩,ha,hb,hr⟩:=h;simp only[PL.flat,ug,jh] at hf hn;obtain⟨n,rfl⟩:∃m,n=m+1:=⟨n-1,by omega⟩;obtain⟨f,rfl⟩:∃m,f=m+1:=⟨f-1,by omega⟩;rw[afs _ _ _ _ _ _ _ (by simp[PL.flat])];have e:(pre++(PL.br st a el b en r).flat)[pre.length]'(by simp[PL.flat])=st:=by simp[PL.flat]
  rw[e,gy h4]
  have ek:jm (pre++(PL.br st a el b en r).flat)=jm pre++4::(jm a.flat++5::(jm b.flat++6::jm r.flat)):=by
   simp[PL.flat,Qy,afr,h4,h5,h6]
  rw[ek,ahx _ _ a b (jm r.flat) ha hb (by rw[←Jp pre];exact adn _ _)];simp only[Ed]
  have ec:costs ay known (pre++(PL.br st a el b en r).flat)=costs ay known pre++(st.kind,xg ay known st)::(costs ay known a.flat++(el.kind,xg ay known el)::(costs ay known b.flat++(en.kind,xg ay known en)::costs ay known r.flat)):=by
   simp[PL.flat,asl,avl]
  rw[ec];rw[agz (costs ay known pre) _ (costs ay known a.flat) _ pre.length (by rw[Vg]) _ (by rw[Vg])]
  have e2:wz (costs ay known pre++(st.kind,xg ay known st)::(costs ay known a.flat++(el.kind,xg ay known el)::(costs ay known b.flat++(en.kind,xg ay known en)::costs ay known r.flat))) (pre.length+1+a.flat.length+1) (pre.length+1+a.flat.length+1+b.flat.length)=costs ay known b.flat:=by
   have:=agz (costs ay known pre++(st.kind,xg ay known st)::costs ay known a.flat) (el.kind,xg ay known el) (costs ay known b.flat) ((en.kind,xg ay known en)::costs ay known r.flat) (pre.length+1+a.flat.length) (by simp[Vg];omega) (pre.length+1+a.flat.length+1+b.flat.length) (by rw[Vg]);simpa using this
  rw[e2,←ec]
  have ra:sumF (f+1) (costs ay known a.flat)=a.cost (xg ay known) 0:=by
   rw[sumF];exact iha f ((costs ay known a.flat).length+1) [] 0 ha (by omega) (by rw[Vg];omega)
  have rb:sumF (f+1) (costs ay known b.flat)=b.cost (xg ay known) 0:=by
   rw[sumF];exact ihb f ((costs ay known b.flat).length+1) [] 0 hb (by omega) (by rw[Vg];omega)
  rw[ra,rb];have:=ihr (f+1) n (pre++st::(a.flat++el::(b.flat++[en]))) (Ll (s+(1+maxS (a.cost (xg ay known) 0) (b.cost (xg ay known) 0)))) hr (by omega) (by omega);have el':(pre++st::(a.flat++el::(b.flat++[en]))).length=pre.length+1+a.flat.length+1+b.flat.length+1:=by simp;omega
  rw[el'] at this;simp only[PL.cost];rw[←this];simp[PL.flat]
theorem ayt (ay known:List Int) (t:PL) (h:t.wf):sumF (t.flat.length+1) (costs ay known t.flat)=t.cost (xg ay known) 0:=by
 rw[sumF];exact ays ay known t t.flat.length ((costs ay known t.flat).length+1) [] 0 h (gu _) (by rw[Vg];omega)
theorem ayu (t:PL):∀H:List dh,t.wf->(t.free H↔(∀x,x∈H->∀u,u∈t.flat->Wn u x=false)/\t.Xt):=by
 induction t using PL.ind with
 | nil=>intro H _;simp[PL.free,PL.flat,PL.Xt]
 | leaf s r ih =>
  intro H h;simp only[PL.free,PL.flat,PL.Xt,ih H h.2,qj];constructor
  ·rintro⟨h1,h2,h3⟩
   refine⟨fun x hx u hu=>?_,h3⟩;rcases hu with rfl|hu
   ·exact h1 x hx
   ·exact h2 x hx u hu
  ·rintro⟨h1,h3⟩
   exact⟨fun x hx=>h1 x hx s (Or.inl rfl),fun x hx u hu=>h1 x hx u (Or.inr hu),h3⟩
 | br s a el b en r iha ihb ihr =>
  intro H h;obtain⟨⟨h4,h5,h6⟩,ha,hb,hr⟩:=h
  have wk:∀(u:lu) (x:dh),u.kind≠1->u.kind≠3->Wn u x=false:=fun u x k1 k3=>by
   simp[Wn,k1,k3]
  simp only[PL.free,PL.flat,PL.Xt,iha _ ha,ihb _ hb,ihr _ hr,qj,Dx];constructor
  ·rintro⟨⟨a1,a2⟩,⟨b1,b2⟩,r1,r2⟩
   refine⟨fun x hx u hu=>?_,⟨fun u hu=>a1 _ (Or.inl rfl) u hu,fun u hu=>b1 _ (Or.inl rfl) u hu⟩,a2,b2,r2⟩;rcases hu with rfl|hu|rfl|hu|rfl|hu
   ·exact wk _ _ (by omega) (by omega)
   ·exact a1 x (Or.inr hx) u hu
   ·exact wk _ _ (by omega) (by omega)
   ·exact b1 x (Or.inr hx) u hu
   ·exact wk _ _ (by omega) (by omega)
   ·exact r1 x hx u hu
  ·rintro⟨h1,⟨a1,b1⟩,a2,b2,r2⟩
   refine⟨⟨fun x hx u hu=>?_,a2⟩,⟨fun x hx u hu=>?_,b2⟩,fun x hx u hu=>h1 x hx u (Or.inr (Or.inr (Or.inr (Or.inr (Or.inr hu))))),r2⟩
   ·rcases hx with rfl|hx
    ·exact a1 u hu
    ·exact h1 x hx u (Or.inr (Or.inl hu))
   ·rcases hx with rfl|hx
    ·exact b1 u hu
    ·exact h1 x hx u (Or.inr (Or.inr (Or.inr (Or.inl hu))))
theorem ael (body:List lu) (i:Nat) (s:lu) (h:body[i]?=some s) (h4:s.kind≠4):Ui body i=false:=by
 unfold Ui;rw[h];simp[h4]
theorem ayv (body:List lu) (i:Nat) (s el en:lu) (a b:PL) (post:List lu) (h:body.drop i=s::(a.flat++el::(b.flat++en::post))) (h4:s.kind=4) (h5:el.kind=5) (h6:en.kind=6) (ha:a.wf) (hb:b.wf) :
  (Ui body i=false↔(∀u,u∈a.flat->Wn u s.name=false)/\∀u,u∈b.flat->Wn u s.name=false):=by
 have wk:∀(u:lu) (x:dh),u.kind≠1->u.kind≠3->Wn u x=false:=fun u x k1 k3=>by
  simp[Wn,k1,k3]
 have hs:body[i]?=some s:=by
  have:(body.drop i)[0]?=some s:=by rw[h];rfl
  simpa using this
 have hp:uo (jm body) i=(((i+1+a.flat.length:Nat):Int),((i+1+a.flat.length+1+b.flat.length:Nat):Int)):=by
  refine ahx _ _ a b (jm post) ha hb ?_;unfold jm;rw[←List.map_drop,h];simp[h4,h5,h6]
 have hel:∀j,body[i+j]?=(s::(a.flat++el::(b.flat++en::post)))[j]?:=fun j=>by
  rw[←h,List.getElem?_drop]
 unfold Ui;rw[hs,hp];simp only[h4,Ed];rw[show ((4:Int)==4)=true from rfl,Ak,List.any_eq_false];constructor
 ·intro hh
  refine⟨fun u hu=>?_,fun u hu=>?_⟩
  ·obtain⟨q,hq,rfl⟩:=List.getElem_of_mem hu
   have h1:=hh (i+(q+1)) (uz.2 (by omega));rw[hel (q+1),List.getElem?_cons_succ,List.getElem?_append_left hq,jy hq] at h1;simpa using h1
  ·obtain⟨q,hq,rfl⟩:=List.getElem_of_mem hu
   have h1:=hh (i+(a.flat.length+1+q+1)) (uz.2 (by omega));rw[hel (a.flat.length+1+q+1),List.getElem?_cons_succ,Us (by omega),show a.flat.length+1+q-a.flat.length=q+1 by omega,List.getElem?_cons_succ,List.getElem?_append_left hq,jy hq] at h1;have h2:decide (i<=i+(a.flat.length+1+q+1))=true:=jf (by omega);rw[h2] at h1;simpa using h1
 ·rintro⟨h1,h2⟩ j hj
  rw[uz] at hj
  by_cases hij:i<=j
  case neg=>simp[hij]
  obtain⟨q,rfl⟩:∃q,j=i+q:=⟨j-i,by omega⟩;rw[hel q];have hd:decide (i<=i+q)=true:=jf (by omega);rw[hd,Ak];rcases q with _|q
  ·simp only[List.getElem?_cons_zero]
   rw[wk s _ (by omega) (by omega)];decide
  ·rw[List.getElem?_cons_succ]
   by_cases hq:q<a.flat.length
   ·rw[List.getElem?_append_left hq,jy hq]
    simp[h1 _ (o7 hq)]
   ·rw[Us (by omega)]
    rcases hr:q-a.flat.length with _|p
    ·rw[List.getElem?_cons_zero]
     simp[wk el _ (by omega) (by omega)]
    ·rw[List.getElem?_cons_succ,List.getElem?_append_left (by omega),jy (by omega)]
     simp[h2 _ (o7 _)]
theorem a3t (t:PL):∀(pre post:List lu),t.wf->((∀i,pre.length<=i->i<pre.length+t.flat.length->Ui (pre++t.flat++post) i=false)↔t.Xt):=by
 induction t using PL.ind with
 | nil=>intro pre post _;simp only[PL.Xt,PL.flat,iff_true];intro i h1 h2;simp at h2;omega
 | leaf s r ih =>
  intro pre post h;have ih':=ih (pre++[s]) post h.2;simp only[Gl,List.singleton_append,jh,N9] at ih';simp only[PL.flat,PL.Xt,ug,Gl,Ew];rw[←ih'];constructor
  ·intro hh i h1 h2
   exact hh i (by omega) (by omega)
  ·intro hh i h1 h2
   by_cases e:i=pre.length
   ·subst e
    exact ael _ _ s (by simp) h.1.1
   ·exact hh i (by omega) (by omega)
 | br s a el b en r iha ihb ihr =>
  intro pre post h;obtain⟨⟨h4,h5,h6⟩,ha,hb,hr⟩:=h;have a6s:=iha (pre++[s]) (el::(b.flat++en::(r.flat++post))) ha;have a6t:=ihb (pre++s::(a.flat++[el])) (en::(r.flat++post)) hb;have a6u:=ihr (pre++s::(a.flat++el::(b.flat++[en]))) post hr;simp only[Gl,List.singleton_append,Ew,jh,N9,ug,Ar] at a6s a6t a6u;simp only[PL.flat,PL.Xt,ug,jh,Gl,Ew];have hbr:=ayv (pre++s::(a.flat++el::(b.flat++en::(r.flat++post)))) pre.length s el en a b (r.flat++post) List.drop_left h4 h5 h6 ha hb;rw[←a6s,←a6t,←a6u,←hbr];constructor
  ·intro hh
   exact⟨hh _ (gu _) (by omega),fun i h1 h2=>hh i (by omega) (by omega),fun i h1 h2=>hh i (by omega) (by omega),fun i h1 h2=>hh i (by omega) (by omega)⟩
  ·rintro⟨g0,g1,g2,g3⟩ i h1 h2
   by_cases e0:i=pre.length
   ·subst e0;exact g0
   by_cases e1:i<pre.length+1+a.flat.length
   ·exact g1 i (by omega) (by omega)
   by_cases e2:i=pre.length+1+a.flat.length
   ·refine ael _ _ el ?_ (by omega)
    rw[Us (by omega),show i-pre.length=a.flat.length+1 by omega,List.getElem?_cons_succ,Us (by omega),Nat.sub_self];rfl
   by_cases e3:i<pre.length+1+a.flat.length+1+b.flat.length
   ·exact g2 i (by omega) (by omega)
   by_cases e4:i=pre.length+1+a.flat.length+1+b.flat.length
   ·refine ael _ _ en ?_ (by omega)
    rw[Us (by omega),show i-pre.length=(a.flat.length+1+b.flat.length)+1 by omega,List.getElem?_cons_succ,Us (by omega),show a.flat.length+1+b.flat.length-a.flat.length=b.flat.length+1 by omega,List.getElem?_cons_succ,Us (by omega),Nat.sub_self];rfl
   ·exact g3 i (by omega) (by omega)
theorem als (t:PL) (h:t.wf):((List.range t.flat.length).all (fun j=>!Ui t.flat j)=true↔t.free []):=by
 rw[ayu t [] h,yc];have:=a3t t [] [] h;simp only[Gm,Aq,Ar,Ba,jg,true_implies] at this;simp only[xq,false_implies,implies_true,true_and];rw[←this];constructor
 ·intro hh i hi
  have:=hh i (uz.2 hi);simpa using this
 ·intro hh i hi
  simp[hh i (uz.1 hi)]
end Go.Proofs.YtfeejeflmcapoaaGreatDoor
