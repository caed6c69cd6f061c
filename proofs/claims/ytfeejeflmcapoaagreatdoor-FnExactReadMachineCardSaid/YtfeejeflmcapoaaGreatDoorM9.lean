import Derived.Test.YtfeejeflmcapoaaGreatDoorM8
set_option linter.unusedSimpArgs false
set_option linter.unusedVariables false
set_option maxHeartbeats 4000000
namespace Go.Proofs.YtfeejeflmcapoaaGreatDoor
open Go.RowKit
def U3 (l:List Int) (n:Nat) (au:List Int):Nat->Int
 | 0=>n
 | q+1=>U3 l n au q+l.getD (au.getD q 0).toNat 0
def X6 (n:Int):Int:=if 20000<n then 20001 else n
def Iq (ks:List dw):Nat->List Int
 | 0=>[]
 | k+1=>Iq ks k++[match ks[k]? with|some x=>X6 (U3 (Iq ks k) x.eu.length x.au x.au.length)|none=>0]
theorem Oa (ks:List dw) (k:Nat):(Iq ks k).length=k:=by
 induction k with
 | zero=>rfl
 | succ k ih=>rw[Iq,je,ih];rfl
theorem Yh (l:List Int) (B:Int) (hB:0<=B) (h:∀x,x∈l->0<=x∧x<=B) (i:Nat):0<=l.getD i 0∧l.getD i 0<=B:=by
 rw[yw]
 cases e:l[i]? with
 | none=>exact⟨Int.le_refl _,hB⟩
 | some x=>exact h x (List.mem_of_getElem? e)
theorem aq1 (l:List Int) (n:Nat) (au:List Int) (h:∀x,x∈l->0<=x∧x<=20001) (q:Nat):0<=U3 l n au q∧U3 l n au q<=n+q*20001:=by
 induction q with
 | zero=>simp only[U3];omega
 | succ q ih =>
  have:=Yh l 20001 (by omega) h (au.getD q 0).toNat;simp only[U3];omega
theorem a4j (n:Int) (h:0<=n):0<=X6 n∧X6 n<=20001:=by
 unfold X6
 split<;>omega
theorem avx (ks:List dw) (k:Nat):∀x,x∈Iq ks k->0<=x∧x<=20001:=by
 induction k with
 | zero=>intro x h;simp[Iq] at h
 | succ k ih =>
  intro x h;rw[Iq,Ec,yj] at h;rcases h with h|rfl
  ·exact ih x h
  ·cases ks[k]? with
   | none=>simp
   | some y=>exact a4j _ (aq1 _ _ _ ih _).1
theorem asq (ks:List dw) (k:dw) (s:lu) (a1 a2 a3 a4 a5 a6 mv ov cv av:Value) (w:bf) (hm:iy 7 160 Dl 0 w mv ks) (h:Oz w k a1 a2 a3 a4 a5 a6) (h1:iy 1 16 wz 0 w ov s.ak) (h2:iy 3 32 Gp 0 w cv s.code) (h3:iy 1 24 Io 0 w av s.args)
  (hin:∀j (hj:j<k.au.length),0<=k.au[j]∧k.au[j]<ks.length) :
  Calls Tryz.prog 83 #[.agg #[mv],.agg #[.string k.name,a1,a2,a3,a4,a5,a6],.agg #[.int .i64 s.kind,.string s.name,.int .i64 s.at_,ov,cv,av]] w (Ans (.bool (x9 ks k s)) w):=by
 obtain⟨kd,nm,ji,ak,code,args⟩:=s;simp only at h1 h2 h3 ⊢
 by_cases e1:kd=1
 ·subst e1;exact as3 ks k nm ji ak code args a1 a2 a3 a4 a5 a6 mv ov cv av w hm h h1 h2 h3 hin
 by_cases e2:kd=2
 ·subst e2;exact as5 ks k nm ji ak code args a1 a2 a3 a4 a5 a6 mv ov cv av w hm h h1 h2 h3 hin
 by_cases e3:kd=3
 ·subst e3;exact as7 ks k nm ji ak code args a1 a2 a3 a4 a5 a6 mv ov cv av w hm h h1 h2 h3 hin
 by_cases e4:kd=4
 ·subst e4;exact as6 ks k nm ji ak code args a1 a2 a3 a4 a5 a6 mv ov cv av w hm h h1 h2 h3 hin
 by_cases e5:kd=5
 ·subst e5;exact as1 ks k nm ji ak code args a1 a2 a3 a4 a5 a6 mv ov cv av w hm h h1 h2 h3 hin
 by_cases e6:kd=6
 ·subst e6;exact as2 ks k nm ji ak code args a1 a2 a3 a4 a5 a6 mv ov cv av w hm h h1 h2 h3 hin
 exact amu ks k nm ji ak code args kd ⟨e1,e2,e3,e4,e5,e6⟩ a1 a2 a3 a4 a5 a6 mv ov cv av w hm h h1 h2 h3 hin
def aje (ks:List dw):Prop:=∀i (hi:i<ks.length),ks[i].eu.length<=1000∧ks[i].au.length<=1000∧∀q (hq:q<ks[i].au.length),0<=ks[i].au[q]∧ks[i].au[q]<(i:Int)
set_option maxRecDepth 20000 in
theorem asn (ks:List dw) (v:Value) (w:bf) (h1:iy 7 160 Dl 0 w v ks) (hio:aje ks) (hnn:ks.length<=200) :
  Calls Tryz.prog 53 #[.agg #[v]] w fun e w'=>∃v,e=.returned v∧iy 1 8 J4 0 w' v (Iq ks ks.length)∧Below w.heap.size w w':=by
 obtain⟨b0,c0,rfl⟩:=h1.shape;obtain⟨_,_,hv0,_,_,hx⟩:=h1;simp only[qw] at hv0;obtain⟨rfl,_,rfl⟩:=hv0;have HX:=hide hx;have HIO:=hide hio;clear hx hio;have P0:=hide ((gy w.heap.size w).alloc (gq _) (.cells #[.slice b0 ks.length c0] 24))
 have O0:Hid (Ew ((w.alloc (.cells #[.slice b0 ks.length c0] 24)).alloc (.cells #[] 3)) (w.heap.size+1) (w.heap.size+1) 0 []):=by
  have:=Ew.start (w.alloc (.cells #[.slice b0 ks.length c0] 24)) (w.heap.size+1) (by simp);show Ew _ _ _ _ _;simpa using this
 go_enter Tryz.func53,Tryz.ntmps53;go_wp2
 go_loopg [3,13] ks.length (fun gh wv i wr=>∃(k g cap:Nat),k<=ks.length∧gh=ks.length-k∧i=.int .i64 k∧wv=.slice (some ⟨g,0,none⟩) k cap∧Ew wr (w.heap.size+1) g cap (Iq ks k)∧Below (w.heap.size+1) (w.alloc (.cells #[.slice b0 ks.length c0] 24)) wr)
 case atStart=>exact⟨0,w.heap.size+1,0,jg _,by omega,rfl,rfl,uh O0,(gy _ _).alloc (by simp) _⟩
 case round =>
  obtain⟨k,g,cap,hk,hg,rfl,rfl,hown,ael⟩:=hrel;rename bf=>wN;have HG:=hide hg;have HOW:=hide hown;have Vk:=hide ael;have BN:Hid (Below w.heap.size w wN):=(uh P0).trans (ael.mono (Nat.le_succ _));have hgN:=hown.lt;have hgb:=hown.base;have hNs:w.heap.size+1<=wN.heap.size:=by have:=ael.size;simpa using this
  have HWL:=hide (Oa ks k);have HBD:=hide (avx ks k);have HD:=hide (hown.at (fun x hx=>by have:=avx ks k x hx;exact⟨rfl,by omega,by omega⟩) (by rw[Oa];omega));clear hg hown ael
  by_cases hlt:k<ks.length
  case neg =>
   have e:k=ks.length:=by omega
   subst e;go_wp2;go_ret;refine⟨_,rfl,?_,uh BN⟩;have:=uh HD;rw[uh HWL] at this;exact this
  obtain⟨b,o,cs,Fv,_,hb,hcs,hc,hR⟩:=uh HX k hlt;subst Fv;have hR:=Ei.stays _ _ _ _ _ (uh BN) hR;have hc:∀j (hj:j<cs.length),wN.cell? ⟨b,o+k*7+j,none⟩=some cs[j]:=fun j hj=>by rw[(uh BN).cell (p:=⟨b,_,none⟩) hb];exact hc j hj
  obtain⟨hm9,hi9,hin⟩:=uh HIO k hlt
  have as8:Hid (Iq ks (k+1)=Iq ks k++[X6 (U3 (Iq ks k) ks[k].eu.length ks[k].au ks[k].au.length)]):=by
   show Iq ks (k+1)=_;rw[Iq,jy hlt]
  generalize ks[k]=nd at *;obtain⟨s,ins,ak,iq,eu,au,body⟩:=nd;obtain⟨v1,v2,v3,v4,v5,v6,rfl,hsn,q1,q2,q3,q4,q5,q6⟩:=hR;simp only at hsn q1 q2 q3 q4 q5 q6 hm9 hi9 hin;obtain⟨b1,c1,rfl⟩:=q1.shape;obtain⟨b2,c2,rfl⟩:=q2.shape;obtain⟨b3,c3,rfl⟩:=q3.shape;obtain⟨b4,c4,rfl⟩:=q4.shape;obtain⟨b5,c5,rfl⟩:=q5.shape;obtain⟨b6,c6,rfl⟩:=q6.shape
  have HEL:Hid (∀q (hq:q<au.length),∃ib io gi,b5=some ⟨ib,io,none⟩∧gi<k∧au[q]=((gi:Nat):Int)∧∀w',Below wN.heap.size wN w'->w'.cell? ⟨ib,io+q,none⟩=some (.int .i64 (gi:Int))∧w'.cell? ⟨g,gi,none⟩=some (.int .i64 ((Iq ks k).getD gi 0))):=fun q hq=>by
   obtain⟨_,_,D6,_,_,hex⟩:=q5;simp only[qw] at D6;obtain⟨rfl,_,rfl⟩:=D6;obtain⟨ib,io,cs,rfl,_,hib,_,hic,⟨rfl,_⟩⟩:=hex q hq;obtain⟨gi,hgi⟩:=H8 (hin q hq).1;have hgk:gi<k:=by have:=(hin q hq).2;omega
   refine⟨ib,io,gi,rfl,hgk,hgi,fun w' hb'=>⟨?_,?_⟩⟩
   ·rw[hb'.cell (p:=⟨ib,_,none⟩) hib]
    have h0:=hic 0 (by simp);rw[jr,jh] at h0;rw[h0,←hgi];rfl
   ·obtain⟨a8,c8,hv8,_,_,hx8⟩:=uh HD
    simp only[qw] at hv8;obtain⟨rfl,_,rfl⟩:=hv8;obtain⟨jb,jo,js,hjb,_,hjl,_,hjc,⟨rfl,_⟩⟩:=hx8 gi (by rw[uh HWL];exact hgk);simp only[uo,Addr.mk.injEq] at hjb;obtain⟨rfl,rfl,_⟩:=hjb;rw[hb'.cell (p:=⟨g,_,none⟩) hjl];have h0:=hjc 0 (by simp);rw[jr,jh,Bh] at h0;rw[h0,yw,jy (by rw[uh HWL];exact hgk)];rfl
  have y0:=hc 0 (by simp);have y1:=hc 1 (by simp);have y2:=hc 2 (by simp);have y3:=hc 3 (by simp);have y4:=hc 4 (by simp);have y5:=hc 5 (by simp);have y6:=hc 6 (by simp);simp only[jr,jh,ny,o8] at y0 y1 y2 y3 y4 y5 y6;simp only at as8;clear q1 q2 q3 q4 q5 q6 hc hcs hin HD HX;have U7:=hide (fun q=>aq1 (Iq ks k) eu.length au (uh HBD) q);go_wp2
  go_loopg [6,23] au.length (fun gh n i wr=>∃(q:Nat),q<=au.length∧gh=au.length-q∧i=.int .i64 q∧n=.int .i64 (U3 (Iq ks k) eu.length au q)∧wr=wN.alloc (.cells #[.string s,.slice b1 ins.length c1,.slice b2 ak.length c2,.slice b3 iq.length c3,.slice b4 eu.length c4,.slice b5 au.length c5,.slice b6 body.length c6] 50))
  case atStart=>exact⟨0,jg _,by omega,rfl,rfl,rfl⟩
  case round =>
   obtain⟨q,hq,hg2,rfl,rfl,hwr⟩:=hrel;have HG2:=hide hg2;have hba:Below wN.heap.size wN (wN.alloc (.cells #[.string s,.slice b1 ins.length c1,.slice b2 ak.length c2,.slice b3 iq.length c3,.slice b4 eu.length c4,.slice b5 au.length c5,.slice b6 body.length c6] 50)):=(gy _ _).alloc (gq _) _;have hz:(wN.alloc (.cells #[.string s,.slice b1 ins.length c1,.slice b2 ak.length c2,.slice b3 iq.length c3,.slice b4 eu.length c4,.slice b5 au.length c5,.slice b6 body.length c6] 50)).heap.size=wN.heap.size+1:=by simp
   rw[←hwr] at hba hz;rename bf=>wq;have Wy:=hide hba;have HWR:Hid (wq=wN.alloc (.cells #[.string s,.slice b1 ins.length c1,.slice b2 ak.length c2,.slice b3 iq.length c3,.slice b4 eu.length c4,.slice b5 au.length c5,.slice b6 body.length c6] 50)):=hwr;clear hg2 hwr y0 y1 y2 y3 y4 y5 y6;obtain⟨hs1,hs2⟩:=uh U7 q
   by_cases a7r:q<au.length
   case neg =>
    have e:q=au.length:=by omega
    have Og:Hid (Iq ks (k+1)=Iq ks k++[X6 (U3 (Iq ks k) eu.length au q)]):=by
     show Iq ks (k+1)=_;rw[uh as8,e]
    have HQ:=hide ((uh Vk).trans (hba.mono hNs));have HOQ:=hide ((uh HOW).below hba);clear as8 hba HEL;generalize U3 (Iq ks k) eu.length au q=sm at *
    by_cases hgt:20000<sm
    ·have f1:decide (20000<sm)=true:=jf hgt
     have e9:X6 sm=20001:=by unfold X6;rw[gu hgt]
     rw[e9] at Og;have anh:Hid (Ew (wq.alloc (.cells #[.int .i64 20001] 3)) (w.heap.size+1) g cap (Iq ks k)):=(uh HOQ).below ((gy _ _).alloc (gq _) _);have Wu:Hid (Below (w.heap.size+1) _ (wq.alloc (.cells #[.int .i64 20001] 3))):=(uh HQ).trans ((gy _ _).alloc (by omega) _);have HZ:=hide hz;clear e9 hgt e hz;go_wp2_with (at_builtin;go_must (refine Tf _ rfl _ _ rfl (w.heap.size+1) g cap (Iq ks k) (by rw[uh HWL];rfl) (uh anh) wq.heap.size 20001 rfl (by rw[zy _ _ _ _ rfl];rfl) (by rw[uh HWL];omega) (by have:=uh HZ;simp;omega) ?_));intro g' cap' w7 J9 Ti;have B7:=Wh (uh Wu) Ti (by have:=uh HZ;simp;omega) hgb;rw[←uh Og] at J9;have Xh:=hide J9;have Zp:=hide B7;rw[uh HWL];clear J9 Ti B7;go_wp2
     go_roundg (ks.length-(k+1))
     case measure=>have:=uh HG;omega
     case rel=>exact⟨k+1,g',cap',by omega,rfl,by go_num,rfl,uh Xh,uh Zp⟩
    ·have f1:decide (20000<sm)=false:=iw hgt
     have e9:X6 sm=sm:=by unfold X6;rw[ay hgt]
     rw[e9] at Og;have anh:Hid (Ew (wq.alloc (.cells #[.int .i64 sm] 3)) (w.heap.size+1) g cap (Iq ks k)):=(uh HOQ).below ((gy _ _).alloc (gq _) _);have Wu:Hid (Below (w.heap.size+1) _ (wq.alloc (.cells #[.int .i64 sm] 3))):=(uh HQ).trans ((gy _ _).alloc (by omega) _);have HZ:=hide hz;clear e9 hgt e hz;go_wp2_with (at_builtin;go_must (refine Tf _ rfl _ _ rfl (w.heap.size+1) g cap (Iq ks k) (by rw[uh HWL];rfl) (uh anh) wq.heap.size sm rfl (by rw[zy _ _ _ _ rfl];rfl) (by rw[uh HWL];omega) (by have:=uh HZ;simp;omega) ?_));intro g' cap' w7 J9 Ti;have B7:=Wh (uh Wu) Ti (by have:=uh HZ;simp;omega) hgb;rw[←uh Og] at J9;have Xh:=hide J9;have Zp:=hide B7;rw[uh HWL];clear J9 Ti B7;go_wp2
     go_roundg (ks.length-(k+1))
     case measure=>have:=uh HG;omega
     case rel=>exact⟨k+1,g',cap',by omega,rfl,by go_num,rfl,uh Xh,uh Zp⟩
   obtain⟨ib,io,gi,rfl,hgk,hgi,a7s⟩:=uh HEL q a7r;obtain⟨z1,z2⟩:=a7s _ hba
   have HST:Hid (U3 (Iq ks k) eu.length au (q+1)=U3 (Iq ks k) eu.length au q+(Iq ks k).getD gi 0):=by
    show U3 _ _ _ (q+1)=_;rw[U3,yw (l:=au),jy a7r,Kz,hgi,En]
   obtain⟨hg1,hg2⟩:=Yh (Iq ks k) 20001 (by omega) (uh HBD) gi;have bfb:(q:Int)<(au.length:Int):=by omega
   have bfi:(gi:Int)<(k:Int):=by omega
   clear a7s hgi HEL hba hz;generalize (Iq ks k).getD gi 0=gv at *;generalize hS1:U3 (Iq ks k) eu.length au q=sm at *;clear hS1;go_wp2
   go_roundg (au.length-(q+1))
   case measure=>have:=uh HG2;omega
   case rel=>exact⟨q+1,by omega,rfl,by go_num,by rw[uh HST],uh HWR⟩
def Lm (n:Int):Int:=if 400000<n then 400001 else n
def maxS (a b:Int):Int:=if a<b then b else a
def costs (au known:List Int) (body:List lu):List (Int × Int):=body.map fun s=>(s.kind,known.getD (au.getD s.at_.toNat 0).toNat 0)
def Pe (rec:List (Int × Int)->Int) (ps:List (Int × Int)):Nat->Nat->Int->Int
 | 0,_,sum=>sum
 | f+1,i,sum=>match ps[i]? with
  | none=>sum
  | some p =>
   if p.1=4 then Pe rec ps f ((uj (ps.map Prod.fst) i).2.toNat+1) (Lm (sum+(1+maxS (rec (vw ps (i+1) (uj (ps.map Prod.fst) i).1.toNat)) (rec (vw ps ((uj (ps.map Prod.fst) i).1.toNat+1) (uj (ps.map Prod.fst) i).2.toNat)))))
   else if p.1=3 then Pe rec ps f (i+1) (Lm (sum+(1+p.2)))
   else Pe rec ps f (i+1) (Lm (sum+1))
def sumF:Nat->List (Int × Int)->Int
 | 0,_=>0
 | f+1,ps=>Pe (sumF f) ps (ps.length+1) 0 0
theorem Qd (n:Int) (h:0<=n):0<=Lm n∧Lm n<=400001:=by
 unfold Lm
 split<;>omega
theorem ag2 (a b B:Int) (h1:0<=a∧a<=B) (h2:0<=b∧b<=B):0<=maxS a b∧maxS a b<=B:=by
 unfold maxS
 split<;>omega
theorem a4k (rec:List (Int × Int)->Int) (ps:List (Int × Int)) (hp:∀p,p∈ps->0<=p.2∧p.2<=400001) (hr:∀p q,0<=rec (vw ps p q)∧rec (vw ps p q)<=400001):∀(f i:Nat) (sum:Int),0<=sum->sum<=400001->0<=Pe rec ps f i sum∧Pe rec ps f i sum<=400001:=by
 intro f
 induction f with
 | zero=>intro i sum h1 h2;exact⟨h1,h2⟩
 | succ f ih =>
  intro i sum h1 h2;rw[Pe]
  split
  ·exact⟨h1,h2⟩
  ·rename_i p he
   have hpp:=hp p (List.mem_of_getElem? he)
   split
   ·have hm:=ag2 _ _ _ (hr (i+1) (uj (ps.map Prod.fst) i).1.toNat) (hr ((uj (ps.map Prod.fst) i).1.toNat+1) (uj (ps.map Prod.fst) i).2.toNat)
    have hc:=Qd (sum+(1+maxS (rec (vw ps (i+1) (uj (ps.map Prod.fst) i).1.toNat)) (rec (vw ps ((uj (ps.map Prod.fst) i).1.toNat+1) (uj (ps.map Prod.fst) i).2.toNat)))) (by omega);exact ih _ _ hc.1 hc.2
   ·split
    ·have hc:=Qd (sum+(1+p.2)) (by omega)
     exact ih _ _ hc.1 hc.2
    ·have hc:=Qd (sum+1) (by omega)
     exact ih _ _ hc.1 hc.2
theorem aki {α:Type} {ks:List α} {p q:Nat} {x:α} (h:x∈vw ks p q):x∈ks:=List.mem_of_mem_drop (List.mem_of_mem_take h)
theorem akf:∀(f:Nat) (ps:List (Int × Int)),(∀p,p∈ps->0<=p.2∧p.2<=400001)->0<=sumF f ps∧sumF f ps<=400001:=by
 intro f
 induction f with
 | zero=>intro ps _;exact⟨Int.le_refl _,by simp[sumF]⟩
 | succ f ih =>
  intro ps h;exact a4k (sumF f) ps h (fun p q=>ih _ (fun x hx=>h x (aki hx))) _ _ _ (Int.le_refl _) (by omega)
theorem avy (au known:List Int) (body:List lu):(costs au known body).map Prod.fst=jl body:=by
 unfold costs jl;rw[List.map_map];rfl
theorem ahy (au known:List Int) (body:List lu) (h:∀x,x∈known->0<=x∧x<=400001):∀p,p∈costs au known body->0<=p.2∧p.2<=400001:=by
 intro p hp;unfold costs at hp;rw[List.mem_map] at hp;obtain⟨s,_,rfl⟩:=hp;exact Yh known 400001 (by omega) h _
theorem afu (rec:List (Int × Int)->Int) (au known:List Int) (body:List lu) (f i:Nat) (sum:Int) (hi:i<body.length):Pe rec (costs au known body) (f+1) i sum =
  (if body[i].kind=4 then Pe rec (costs au known body) f ((uj (jl body) i).2.toNat+1) (Lm (sum+(1+maxS (rec (vw (costs au known body) (i+1) (uj (jl body) i).1.toNat)) (rec (vw (costs au known body) ((uj (jl body) i).1.toNat+1) (uj (jl body) i).2.toNat)))))
   else if body[i].kind=3 then Pe rec (costs au known body) f (i+1) (Lm (sum+(1+known.getD (au.getD body[i].at_.toNat 0).toNat 0)))
   else Pe rec (costs au known body) f (i+1) (Lm (sum+1))):=by
 rw[Pe]
 have e:(costs au known body)[i]?=some (body[i].kind,known.getD (au.getD body[i].at_.toNat 0).toNat 0):=by
  unfold costs;rw[List.getElem?_map,jy hi];rfl
 rw[e,avy]
theorem ank (rec:List (Int × Int)->Int) (au known:List Int) (body:List lu) (f:Nat) (sum:Int):Pe rec (costs au known body) f body.length sum=sum:=by
 cases f with
 | zero=>rfl
 | succ f =>
  have e:(costs au known body)[body.length]?=none:=by unfold costs;simp
  rw[Pe,e]
def aqw (au known:List Int) (body:List lu):Prop:=∀s,s∈body->s.kind=3->∃ia gi:Nat,s.at_=(ia:Int)∧ia<au.length∧au.getD ia 0=(gi:Int)∧gi<known.length
set_option maxRecDepth 20000 in
theorem ays (nm:dh) (au known:List Int) (b1 b2 b3 b4 b5 b6 bk:Option Addr) (n1 n2 n3 n4 n6 c1 c2 c3 c4 c5 c6 ck:Nat) (hkb:∀x,x∈known->0<=x∧x<=400001):∀(f:Nat) (body:List lu) (v:Value) (depth:Int) (w:bf),iy 6 104 Zu 0 w v body->iy 1 8 J4 0 w (.slice b5 au.length c5) au->iy 1 8 J4 0 w (.slice bk known.length ck) known->aqw au known body->body.length<f->Eu f (jl body) depth=true ->
  Calls Tryz.prog 87 #[.agg #[.string nm,.slice b1 n1 c1,.slice b2 n2 c2,.slice b3 n3 c3,.slice b4 n4 c4,.slice b5 au.length c5,.slice b6 n6 c6],v,.slice bk known.length ck] w fun e w'=>e=.returned (.int .i64 (sumF f (costs au known body)))∧Below w.heap.size w w':=by
 intro f
 induction f with
 | zero=>intro body v depth w _ _ _ _ h;omega
 | succ f ih =>
  intro body v depth w hv hI hK a7t hlf as9;have HPT:=hide (fun i (hi:i<=body.length) w' (hb:Below w.heap.size w w')=>aeo body v i w' (hv.stays P9 hb) hi);have hkl:(jl body).length=body.length:=by unfold jl;simp
  have HV:=hide hv;have HII:=hide hI;have HKK:=hide hK;have azd:=hide a7t;obtain⟨a,cap,rfl,⟨_,hcap⟩,hn,hx⟩:=hv;unfold Len at hn;have HX:=hide hx;have li:=hI.Bz;have lk:=hK.Bz
  have HR:Hid (sumF (f+1) (costs au known body)=Pe (sumF f) (costs au known body) (body.length+1) 0 0):=by
   show sumF (f+1) (costs au known body)=_;rw[sumF];unfold costs;rw[Ad]
  have HNE:Hid (Sz (Eu f) (jl body) depth (body.length+1) 0=true):=by
   show _=true;rw[Eu,hkl] at as9;exact as9
  have HK:=hide (fun j (hj:j<body.length)=>X5 body j hj)
  have HSN:=hide (fun g i (hi:i<body.length)=>by
   have h:=Y1 (Eu f) (jl body) depth g i (by rw[hkl];exact hi);rw[uh HK i hi] at h;exact h)
  have HST:=hide (fun g i sum (hi:i<body.length)=>afu (sumF f) au known body g i sum hi);have Xa:=hide (fun g sum=>ank (sumF f) au known body g sum)
  have HPB:=hide (fun i (hi:i<body.length) (h4:body[i].kind=4) h1 h2=>by
   have h:=ah0 (jl body) i (by rw[hkl];exact hi) (by rw[uh HK i hi];exact h4) h1 h2;rw[hkl] at h;exact h)
  have hA:Below w.heap.size w (w.alloc (.cells #[.string nm,.slice b1 n1 c1,.slice b2 n2 c2,.slice b3 n3 c3,.slice b4 n4 c4,.slice b5 au.length c5,.slice b6 n6 c6] 50)):=(gy _ _).alloc (gq _) _;have U6:jc (w.alloc (.cells #[.string nm,.slice b1 n1 c1,.slice b2 n2 c2,.slice b3 n3 c3,.slice b4 n4 c4,.slice b5 au.length c5,.slice b6 n6 c6] 50)) w.heap.size 50 #[.string nm,.slice b1 n1 c1,.slice b2 n2 c2,.slice b3 n3 c3,.slice b4 n4 c4,.slice b5 au.length c5,.slice b6 n6 c6]:=og w #[.string nm,.slice b1 n1 c1,.slice b2 n2 c2,.slice b3 n3 c3,.slice b4 n4 c4,.slice b5 au.length c5,.slice b6 n6 c6] 50;obtain⟨BX,l9⟩:∃BX:bf->Prop,∀w',BX w'↔Below (w.heap.size+1) (w.alloc (.cells #[.string nm,.slice b1 n1 c1,.slice b2 n2 c2,.slice b3 n3 c3,.slice b4 n4 c4,.slice b5 au.length c5,.slice b6 n6 c6] 50)) w':=⟨_,fun _=>Iff.rfl⟩;have Xi:(w.alloc (.cells #[.string nm,.slice b1 n1 c1,.slice b2 n2 c2,.slice b3 n3 c3,.slice b4 n4 c4,.slice b5 au.length c5,.slice b6 n6 c6] 50)).heap.size=w.heap.size+1:=by simp
  have Ak:Hid (∀w1,BX w1->Below w.heap.size w w1):=fun w1 h=>hA.trans (((l9 w1).1 h).mono (by omega))
  have Gl:Hid (∀w1 w2,BX w1->Below w1.heap.size w1 w2->BX w2):=fun w1 w2 h h2=>(l9 w2).2 (((l9 w1).1 h).trans (h2.mono (by have:=((l9 w1).1 h).size;omega)))
  have Js:Hid (∀w1,BX w1->w1.cell? ⟨w.heap.size,0,none⟩=some (.string nm)∧w1.cell? ⟨w.heap.size,1,none⟩=some (.slice b1 n1 c1)∧w1.cell? ⟨w.heap.size,2,none⟩=some (.slice b2 n2 c2)∧w1.cell? ⟨w.heap.size,3,none⟩=some (.slice b3 n3 c3)∧w1.cell? ⟨w.heap.size,4,none⟩=some (.slice b4 n4 c4)∧w1.cell? ⟨w.heap.size,5,none⟩=some (.slice b5 au.length c5)∧w1.cell? ⟨w.heap.size,6,none⟩=some (.slice b6 n6 c6)):=fun w1 h=>⟨(U6.below ((l9 w1).1 h) (by omega)).cell (i:=0) (v:=.string nm) rfl,(U6.below ((l9 w1).1 h) (by omega)).cell (i:=1) (v:=.slice b1 n1 c1) rfl,(U6.below ((l9 w1).1 h) (by omega)).cell (i:=2) (v:=.slice b2 n2 c2) rfl,(U6.below ((l9 w1).1 h) (by omega)).cell (i:=3) (v:=.slice b3 n3 c3) rfl,(U6.below ((l9 w1).1 h) (by omega)).cell (i:=4) (v:=.slice b4 n4 c4) rfl,(U6.below ((l9 w1).1 h) (by omega)).cell (i:=5) (v:=.slice b5 au.length c5) rfl,(U6.below ((l9 w1).1 h) (by omega)).cell (i:=6) (v:=.slice b6 n6 c6) rfl⟩
  have HX0:Hid (BX (w.alloc (.cells #[.string nm,.slice b1 n1 c1,.slice b2 n2 c2,.slice b3 n3 c3,.slice b4 n4 c4,.slice b5 au.length c5,.slice b6 n6 c6] 50))):=(l9 _).2 (gy _ _)
  have HIH:Hid (∀p q b o,a=some ⟨b,o,none⟩->p<=q->q<=body.length->0<p->Eu f (vw (jl body) p q) (depth+1)=true->∀w0,BX w0->Calls Tryz.prog 87 #[.agg #[.string nm,.slice b1 n1 c1,.slice b2 n2 c2,.slice b3 n3 c3,.slice b4 n4 c4,.slice b5 au.length c5,.slice b6 n6 c6],.slice (some ⟨b,o+p*6,none⟩) (q-p) (cap-p),.slice bk known.length ck] w0.drew fun e w'=>e=.returned (.int .i64 (sumF f (vw (costs au known body) p q)))∧BX w'∧w'.cell? ⟨w.heap.size,0,none⟩=some (.string nm)∧w'.cell? ⟨w.heap.size,1,none⟩=some (.slice b1 n1 c1)∧w'.cell? ⟨w.heap.size,2,none⟩=some (.slice b2 n2 c2)∧w'.cell? ⟨w.heap.size,3,none⟩=some (.slice b3 n3 c3)∧w'.cell? ⟨w.heap.size,4,none⟩=some (.slice b4 n4 c4)∧w'.cell? ⟨w.heap.size,5,none⟩=some (.slice b5 au.length c5)∧w'.cell? ⟨w.heap.size,6,none⟩=some (.slice b6 n6 c6)):=fun p q b o ha hp hq h0 hne w0 hb0=>by
   subst ha;have hdr:=uh Gl _ _ hb0 (gy _ w0).drew;have hbw:=uh Ak _ hdr;have hs:=((uh HV).stays P9 hbw).sub p q hp hq;have hl:=Ru body p q hp hq;have e:jl (vw body p q)=vw (jl body) p q:=aem _ _ _ _;have e2:costs au known (vw body p q)=vw (costs au known body) p q:=aem _ _ _ _;have h:=ih (vw body p q) _ (depth+1) w0.drew hs ((uh HII).stays Fp hbw) ((uh HKK).stays Fp hbw) (fun s hs=>uh azd s (aki hs)) (by omega) (by rw[e];exact hne);rw[e2] at h;refine h.mono ?_;rintro e w' ⟨rfl,hb'⟩;have hx':=uh Gl _ _ hdr hb';exact⟨rfl,hx',uh Js _ hx'⟩
  have Vs:Hid (∀i (hi:i<body.length),body[i].kind=3->∃ia gi ib io kb ko,body[i].at_=((ia:Nat):Int)∧ia<au.length∧gi<known.length∧known.getD (au.getD body[i].at_.toNat 0).toNat 0=known.getD gi 0∧b5=some ⟨ib,io,none⟩∧bk=some ⟨kb,ko,none⟩∧∀w',BX w'->w'.cell? ⟨ib,io+ia,none⟩=some (.int .i64 ((gi:Nat):Int))∧w'.cell? ⟨kb,ko+gi,none⟩=some (.int .i64 (known.getD gi 0))):=fun i hi h3=>by
   obtain⟨ia,gi,e1,e2,e3,e4⟩:=uh azd body[i] (pz hi) h3;obtain⟨_,_,hv1,_,_,hx1⟩:=uh HII;simp only[qw] at hv1;obtain⟨rfl,_,rfl⟩:=hv1;obtain⟨ib,io,_,rfl,_,hib,_,hic,⟨rfl,_⟩⟩:=hx1 ia e2;obtain⟨_,_,hv2,_,_,hx2⟩:=uh HKK;simp only[qw] at hv2;obtain⟨rfl,_,rfl⟩:=hv2;obtain⟨kb,ko,_,rfl,_,hkb',_,hkc,⟨rfl,_⟩⟩:=hx2 gi e4
   have e5:au[ia]=(gi:Int):=by
    rw[yw,jy e2] at e3;exact e3
   refine⟨ia,gi,ib,io,kb,ko,e1,e2,e4,by rw[e1,En,e3,En],rfl,rfl,fun w' hb'=>⟨?_,?_⟩⟩
   ·rw[(uh Ak _ hb').cell (p:=⟨ib,_,none⟩) hib]
    have h0:=hic 0 (by simp);rw[jr,jh] at h0;rw[h0,←e5];rfl
   ·rw[(uh Ak _ hb').cell (p:=⟨kb,_,none⟩) hkb']
    have h0:=hkc 0 (by simp);rw[jr,jh] at h0;rw[h0,yw,jy e4];rfl
  have U7:=hide (fun p q=>akf f (vw (costs au known body) p q) (fun x hx=>ahy au known body hkb x (aki hx)));have HGB:=hide (fun i=>Yh known 400001 (by omega) hkb i);clear hx hkl ih HV HK hA U6 l9 Xi HII HKK azd hI hK a7t as9 hkb;generalize sumF (f+1) (costs au known body)=R at *;generalize costs au known body=ps at *;generalize jl body=ks at *;go_enter Tryz.func87,Tryz.ntmps87;go_wp2
  go_loopg [7,8] (body.length) (fun g sv iv wr=>∃(i fu:Nat) (sum:Int),i<=body.length∧g=body.length-i∧iv=.int .i64 i∧sv=.int .i64 sum∧body.length<fu+i∧0<=sum∧sum<=400001∧R=Pe (sumF f) ps fu i sum∧Sz (Eu f) ks depth fu i=true∧BX wr)
  case atStart=>exact⟨0,body.length+1,0,jg _,by omega,rfl,rfl,by omega,by omega,by omega,uh HR,uh HNE,uh HX0⟩
  case round =>
   obtain⟨i,fu,sum,hi,hg,rfl,rfl,hfu,hs1,hs2,hR,hN,hbx⟩:=hrel;rename bf=>wr;have HG:=hide hg;have HRR:=hide hR;have HNN:=hide hN;have Ef:=hide hbx;clear hg hR hN
   by_cases hlt:i<body.length
   case neg =>
    have e:i=body.length:=by omega
    subst e;have HF:=hide ((uh HRR).trans (uh Xa fu sum));have HB:=hide (uh Ak _ hbx);go_wp2;go_ret;exact⟨by rw[uh HF];rfl,uh HB⟩
   obtain⟨b,o,cs,Fv,_,hb,hcs,hc,⟨q1,q2,q3,rfl,-⟩⟩:=uh HX i hlt;have HAB:=hide Fv;have r0:=hc 0 (by simp);have r2:=hc 2 (by simp);simp only[jh,ny,o8] at r0 r2;rw[←(uh Ak _ hbx).cell (p:=⟨b,_,none⟩) hb] at r0 r2;obtain⟨k0,k1,k2,k3,k4,k5,k6⟩:=uh Js _ hbx;obtain⟨Sl,rfl⟩:∃Sl,fu=Sl+1:=⟨fu-1,by omega⟩;have HS:=hide ((uh HRR).trans (uh HST Sl i sum hlt));have hnn:=uh HNN;rw[uh HSN Sl i hlt] at hnn;have afw:=hide (uh HPB i hlt);have Nw:=hide (uh HPT i hi _ (uh Ak _ hbx));have HI2:=hide (fun p q=>uh HIH p q b o (uh HAB));have ata:=hide (uh Vs i hlt);subst Fv;have hlt':(i:Int)<(body.length:Int):=by omega
   clear hc hcs HRR HNN hbx;generalize body[i].kind=kd at *;generalize body[i].at_=av at *
   by_cases Y2:kd=5∨kd=6
   ·rw[gu Y2] at hnn
    cases hnn
   rw[ay Y2] at hnn
   by_cases h4:kd=4
   case neg =>
    rw[ay h4] at hnn;have Og:=hide hnn;have hS:=uh HS;rw[ay h4] at hS;have y4:(kd == 4)=false:=by rw[su];omega
    clear HS hnn Y2 h4 afw Nw HI2
    by_cases h3:kd=3
    ·rw[gu h3] at hS
     have y3:(kd == 3)=true:=by simp[h3]
     obtain⟨ia,gi,ib,io,kb,ko,rfl,hia,hgi,heq,rfl,rfl,hce⟩:=uh ata h3;rw[heq] at hS;have HS:=hide hS;obtain⟨u1,u2⟩:=hce _ (uh Ef);obtain⟨v1,v2⟩:=uh HGB gi;have bfj:(ia:Int)<(au.length:Int):=by omega
     have hgi':(gi:Int)<(known.length:Int):=by omega
     clear hS h3 hce heq ata Vs HIH;generalize known.getD gi 0=gv at *;have HQn:Hid (∀n,BX (wr.drewN n)):=fun n=>uh Gl _ _ (uh Ef) ⟨rfl,rfl,rfl,gq _,fun _ _=>rfl⟩
     by_cases hgt:400000<sum+(1+gv)
     ·have f9:decide (400000<sum+(1+gv))=true:=jf hgt
      have HF:Hid (R=Pe (sumF f) ps Sl (i+1) 400001):=(uh HS).trans (by unfold Lm;rw[gu hgt]);clear HS hgt;go_wp2_with fail;go_quiet ((fail));go_wp2
      go_roundg (body.length-(i+1))
      case measure=>have:=uh HG;omega
      case rel=>exact⟨i+1,Sl,400001,by omega,rfl,by go_num,rfl,by omega,by omega,by omega,uh HF,uh Og,uh HQn _⟩
     ·have f9:decide (400000<sum+(1+gv))=false:=iw hgt
      have HF:Hid (R=Pe (sumF f) ps Sl (i+1) (sum+(1+gv))):=(uh HS).trans (by unfold Lm;rw[ay hgt]);clear HS;go_wp2_with fail;go_quiet ((fail));go_wp2
      go_roundg (body.length-(i+1))
      case measure=>have:=uh HG;omega
      case rel=>exact⟨i+1,Sl,sum+(1+gv),by omega,rfl,by go_num,rfl,by omega,by omega,by omega,uh HF,uh Og,uh HQn _⟩
    ·rw[ay h3] at hS
     have y3:(kd == 3)=false:=by simp[h3]
     have HS:=hide hS;clear hS h3 ata Vs HIH
     by_cases hgt:400000<sum+1
     ·have f9:decide (400000<sum+1)=true:=jf hgt
      have HF:Hid (R=Pe (sumF f) ps Sl (i+1) 400001):=(uh HS).trans (by unfold Lm;rw[gu hgt]);clear HS hgt;go_wp2
      go_roundg (body.length-(i+1))
      case measure=>have:=uh HG;omega
      case rel=>exact⟨i+1,Sl,400001,by omega,rfl,by go_num,rfl,by omega,by omega,by omega,uh HF,uh Og,uh Ef⟩
     ·have f9:decide (400000<sum+1)=false:=iw hgt
      have HF:Hid (R=Pe (sumF f) ps Sl (i+1) (sum+1)):=(uh HS).trans (by unfold Lm;rw[ay hgt]);clear HS;go_wp2
      go_roundg (body.length-(i+1))
      case measure=>have:=uh HG;omega
      case rel=>exact⟨i+1,Sl,sum+1,by omega,rfl,by go_num,rfl,by omega,by omega,by omega,uh HF,uh Og,uh Ef⟩
   rw[gu h4] at hnn;have y4:(kd == 4)=true:=by simp[h4]
   have afx:=hide (uh afw h4);have hS:=uh HS;rw[gu h4] at hS;clear HS afw Y2 h4 ata Vs;generalize uj ks i=pp at *;obtain⟨po,pe⟩:=pp;simp only at hS hnn afx Nw
   by_cases hneg:po<0∨pe<0
   ·rw[gu hneg] at hnn
    cases hnn
   rw[ay hneg] at hnn;have hpb:=uh afx (by omega) (by omega);obtain⟨pn,rfl⟩:=H8 (show 0<=po by omega);obtain⟨en,rfl⟩:=H8 (show 0<=pe by omega);simp only[En] at hS hnn
   split at hnn
   ·cases hnn
   split at hnn
   ·cases hnn
   rename_i hne1
   split at hnn
   ·cases hnn
   rename_i hne2
   rw[Bool.not_eq_false] at hne1 hne2;have Aw:=hide (uh HI2 (i+1) pn (by omega) (by omega) (by omega) hne1 wr (uh Ef));have HC2:=hide (fun w0 hb0=>uh HI2 (pn+1) en (by omega) (by omega) (by omega) hne2 w0 hb0);have Og:=hide hnn;have g1:(0:Int)<=(i:Int)+1:=by omega
   have g2:(i:Int)+1<=(pn:Int):=by omega
   have g3:(pn:Int)<=(cap:Int):=by omega
   have g4:(0:Int)<=(pn:Int)+1:=by omega
   have g5:(pn:Int)+1<=(en:Int):=by omega
   have g6:(en:Int)<=(cap:Int):=by omega
   have wr1:IntKind.i64.wrap ((i:Int)+1)=(i:Int)+1:=by rw[Rf];omega
   have wr2:IntKind.i64.wrap ((pn:Int)+1)=(pn:Int)+1:=by rw[Rf];omega
   have cn1:¬cap=i+1:=by omega
   have cn2:¬cap=pn+1:=by omega
   have hnb:i+1<=pn∧pn+1<=en∧en<body.length:=by omega
   obtain⟨t1,t2⟩:=uh U7 (i+1) pn;obtain⟨t3,t4⟩:=uh U7 (pn+1) en;have HS:=hide hS;clear afx HI2 hneg hpb hne1 hne2 hnn hS HIH U7 HPT HPB r2;generalize sumF f (vw ps (i+1) pn)=v1 at *;generalize sumF f (vw ps (pn+1) en)=v2 at *
   by_cases atb:v1<v2
   ·have e5:decide (v1<v2)=true:=jf atb
    have e6:maxS v1 v2=v2:=by unfold maxS;rw[gu atb]
    rw[e6] at HS;clear e6
    by_cases hgt:400000<sum+(1+v2)
    ·have f9:decide (400000<sum+(1+v2))=true:=jf hgt
     have HF:Hid (R=Pe (sumF f) ps Sl (en+1) 400001):=(uh HS).trans (by unfold Lm;rw[gu hgt]);clear HS hgt;go_wp2_with fail;refine(uh Nw).mono ?_;rintro e w9 ⟨rfl,h9⟩;obtain rfl:=h9.symm;clear h9;clear Nw HST Xa HSN HX HR HNE HGB HX0 r0 y4;go_wp2_with fail
     go_region_held3 (fun w'=>w'.cell? ⟨w.heap.size,0,none⟩=some (.string nm)∧w'.cell? ⟨w.heap.size,1,none⟩=some (.slice b1 n1 c1)∧w'.cell? ⟨w.heap.size,2,none⟩=some (.slice b2 n2 c2)∧w'.cell? ⟨w.heap.size,3,none⟩=some (.slice b3 n3 c3)∧w'.cell? ⟨w.heap.size,4,none⟩=some (.slice b4 n4 c4)∧w'.cell? ⟨w.heap.size,5,none⟩=some (.slice b5 au.length c5)∧w'.cell? ⟨w.heap.size,6,none⟩=some (.slice b6 n6 c6)) (go_keep) (first|(go_at_call 87;refine(uh Aw).mono ?_;rintro e w8 ⟨rfl,hBm,m0,m1,m2,m3,m4,m5,m6⟩))
     have Vm:=hide (uh HC2 w8 hBm);clear HC2 Aw;go_wp2_with fail
     go_region_held3 (fun w'=>w'.cell? ⟨w.heap.size,0,none⟩=some (.string nm)∧w'.cell? ⟨w.heap.size,1,none⟩=some (.slice b1 n1 c1)∧w'.cell? ⟨w.heap.size,2,none⟩=some (.slice b2 n2 c2)∧w'.cell? ⟨w.heap.size,3,none⟩=some (.slice b3 n3 c3)∧w'.cell? ⟨w.heap.size,4,none⟩=some (.slice b4 n4 c4)∧w'.cell? ⟨w.heap.size,5,none⟩=some (.slice b5 au.length c5)∧w'.cell? ⟨w.heap.size,6,none⟩=some (.slice b6 n6 c6)) (go_keep) (first|(go_at_call 87;refine(uh Vm).mono ?_;rintro e w7 ⟨rfl,hBl,l0,l1,l2,l3,l4,l5,l6⟩))
     have Ah:=hide hBl;go_wp2
     go_roundg (body.length-(en+1))
     case measure=>have:=uh HG;omega
     case rel=>exact⟨en+1,Sl,400001,by omega,rfl,by go_num,rfl,by omega,by omega,by omega,uh HF,uh Og,uh Ah⟩
    ·have f9:decide (400000<sum+(1+v2))=false:=iw hgt
     have HF:Hid (R=Pe (sumF f) ps Sl (en+1) (sum+(1+v2))):=(uh HS).trans (by unfold Lm;rw[ay hgt]);clear HS;go_wp2_with fail;refine(uh Nw).mono ?_;rintro e w9 ⟨rfl,h9⟩;obtain rfl:=h9.symm;clear h9;clear Nw HST Xa HSN HX HR HNE HGB HX0 r0 y4;go_wp2_with fail
     go_region_held3 (fun w'=>w'.cell? ⟨w.heap.size,0,none⟩=some (.string nm)∧w'.cell? ⟨w.heap.size,1,none⟩=some (.slice b1 n1 c1)∧w'.cell? ⟨w.heap.size,2,none⟩=some (.slice b2 n2 c2)∧w'.cell? ⟨w.heap.size,3,none⟩=some (.slice b3 n3 c3)∧w'.cell? ⟨w.heap.size,4,none⟩=some (.slice b4 n4 c4)∧w'.cell? ⟨w.heap.size,5,none⟩=some (.slice b5 au.length c5)∧w'.cell? ⟨w.heap.size,6,none⟩=some (.slice b6 n6 c6)) (go_keep) (first|(go_at_call 87;refine(uh Aw).mono ?_;rintro e w8 ⟨rfl,hBm,m0,m1,m2,m3,m4,m5,m6⟩))
     have Vm:=hide (uh HC2 w8 hBm);clear HC2 Aw;go_wp2_with fail
     go_region_held3 (fun w'=>w'.cell? ⟨w.heap.size,0,none⟩=some (.string nm)∧w'.cell? ⟨w.heap.size,1,none⟩=some (.slice b1 n1 c1)∧w'.cell? ⟨w.heap.size,2,none⟩=some (.slice b2 n2 c2)∧w'.cell? ⟨w.heap.size,3,none⟩=some (.slice b3 n3 c3)∧w'.cell? ⟨w.heap.size,4,none⟩=some (.slice b4 n4 c4)∧w'.cell? ⟨w.heap.size,5,none⟩=some (.slice b5 au.length c5)∧w'.cell? ⟨w.heap.size,6,none⟩=some (.slice b6 n6 c6)) (go_keep) (first|(go_at_call 87;refine(uh Vm).mono ?_;rintro e w7 ⟨rfl,hBl,l0,l1,l2,l3,l4,l5,l6⟩))
     have Ah:=hide hBl;go_wp2
     go_roundg (body.length-(en+1))
     case measure=>have:=uh HG;omega
     case rel=>exact⟨en+1,Sl,sum+(1+v2),by omega,rfl,by go_num,rfl,by omega,by omega,by omega,uh HF,uh Og,uh Ah⟩
   ·have e5:decide (v1<v2)=false:=iw atb
    have e6:maxS v1 v2=v1:=by unfold maxS;rw[ay atb]
    rw[e6] at HS;clear e6
    by_cases hgt:400000<sum+(1+v1)
    ·have f9:decide (400000<sum+(1+v1))=true:=jf hgt
     have HF:Hid (R=Pe (sumF f) ps Sl (en+1) 400001):=(uh HS).trans (by unfold Lm;rw[gu hgt]);clear HS hgt;go_wp2_with fail;refine(uh Nw).mono ?_;rintro e w9 ⟨rfl,h9⟩;obtain rfl:=h9.symm;clear h9;clear Nw HST Xa HSN HX HR HNE HGB HX0 r0 y4;go_wp2_with fail
     go_region_held3 (fun w'=>w'.cell? ⟨w.heap.size,0,none⟩=some (.string nm)∧w'.cell? ⟨w.heap.size,1,none⟩=some (.slice b1 n1 c1)∧w'.cell? ⟨w.heap.size,2,none⟩=some (.slice b2 n2 c2)∧w'.cell? ⟨w.heap.size,3,none⟩=some (.slice b3 n3 c3)∧w'.cell? ⟨w.heap.size,4,none⟩=some (.slice b4 n4 c4)∧w'.cell? ⟨w.heap.size,5,none⟩=some (.slice b5 au.length c5)∧w'.cell? ⟨w.heap.size,6,none⟩=some (.slice b6 n6 c6)) (go_keep) (first|(go_at_call 87;refine(uh Aw).mono ?_;rintro e w8 ⟨rfl,hBm,m0,m1,m2,m3,m4,m5,m6⟩))
     have Vm:=hide (uh HC2 w8 hBm);clear HC2 Aw;go_wp2_with fail
     go_region_held3 (fun w'=>w'.cell? ⟨w.heap.size,0,none⟩=some (.string nm)∧w'.cell? ⟨w.heap.size,1,none⟩=some (.slice b1 n1 c1)∧w'.cell? ⟨w.heap.size,2,none⟩=some (.slice b2 n2 c2)∧w'.cell? ⟨w.heap.size,3,none⟩=some (.slice b3 n3 c3)∧w'.cell? ⟨w.heap.size,4,none⟩=some (.slice b4 n4 c4)∧w'.cell? ⟨w.heap.size,5,none⟩=some (.slice b5 au.length c5)∧w'.cell? ⟨w.heap.size,6,none⟩=some (.slice b6 n6 c6)) (go_keep) (first|(go_at_call 87;refine(uh Vm).mono ?_;rintro e w7 ⟨rfl,hBl,l0,l1,l2,l3,l4,l5,l6⟩))
     have Ah:=hide hBl;go_wp2
     go_roundg (body.length-(en+1))
     case measure=>have:=uh HG;omega
     case rel=>exact⟨en+1,Sl,400001,by omega,rfl,by go_num,rfl,by omega,by omega,by omega,uh HF,uh Og,uh Ah⟩
    ·have f9:decide (400000<sum+(1+v1))=false:=iw hgt
     have HF:Hid (R=Pe (sumF f) ps Sl (en+1) (sum+(1+v1))):=(uh HS).trans (by unfold Lm;rw[ay hgt]);clear HS;go_wp2_with fail;refine(uh Nw).mono ?_;rintro e w9 ⟨rfl,h9⟩;obtain rfl:=h9.symm;clear h9;clear Nw HST Xa HSN HX HR HNE HGB HX0 r0 y4;go_wp2_with fail
     go_region_held3 (fun w'=>w'.cell? ⟨w.heap.size,0,none⟩=some (.string nm)∧w'.cell? ⟨w.heap.size,1,none⟩=some (.slice b1 n1 c1)∧w'.cell? ⟨w.heap.size,2,none⟩=some (.slice b2 n2 c2)∧w'.cell? ⟨w.heap.size,3,none⟩=some (.slice b3 n3 c3)∧w'.cell? ⟨w.heap.size,4,none⟩=some (.slice b4 n4 c4)∧w'.cell? ⟨w.heap.size,5,none⟩=some (.slice b5 au.length c5)∧w'.cell? ⟨w.heap.size,6,none⟩=some (.slice b6 n6 c6)) (go_keep) (first|(go_at_call 87;refine(uh Aw).mono ?_;rintro e w8 ⟨rfl,hBm,m0,m1,m2,m3,m4,m5,m6⟩))
     have Vm:=hide (uh HC2 w8 hBm);clear HC2 Aw;go_wp2_with fail
     go_region_held3 (fun w'=>w'.cell? ⟨w.heap.size,0,none⟩=some (.string nm)∧w'.cell? ⟨w.heap.size,1,none⟩=some (.slice b1 n1 c1)∧w'.cell? ⟨w.heap.size,2,none⟩=some (.slice b2 n2 c2)∧w'.cell? ⟨w.heap.size,3,none⟩=some (.slice b3 n3 c3)∧w'.cell? ⟨w.heap.size,4,none⟩=some (.slice b4 n4 c4)∧w'.cell? ⟨w.heap.size,5,none⟩=some (.slice b5 au.length c5)∧w'.cell? ⟨w.heap.size,6,none⟩=some (.slice b6 n6 c6)) (go_keep) (first|(go_at_call 87;refine(uh Vm).mono ?_;rintro e w7 ⟨rfl,hBl,l0,l1,l2,l3,l4,l5,l6⟩))
     have Ah:=hide hBl;go_wp2
     go_roundg (body.length-(en+1))
     case measure=>have:=uh HG;omega
     case rel=>exact⟨en+1,Sl,sum+(1+v1),by omega,rfl,by go_num,rfl,by omega,by omega,by omega,uh HF,uh Og,uh Ah⟩
end Go.Proofs.YtfeejeflmcapoaaGreatDoor
