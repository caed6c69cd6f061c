import Derived.Test.YtfeejeflmcapoaaGreatDoorM8
set_option linter.unusedSimpArgs false
set_option linter.unusedVariables false
set_option maxHeartbeats 4000000
set_option maxRecDepth 20000
namespace Go.Proofs.YtfeejeflmcapoaaGreatDoor
open Go.RowKit
def Uz (l:List Int) (n:Nat) (ay:List Int):Nat->Int
 | 0=>n
 | q+1=>Uz l n ay q+l.getD (ay.getD q 0).toNat 0
def Xz (n:Int):Int:=if 20000<n then 20001 else n
def Ij (ks:List dw):Nat->List Int
 | 0=>[]
 | k+1=>Ij ks k++[match ks[k]? with|some x=>Xz (Uz (Ij ks k) x.gq.length x.ay x.ay.length)|none=>0]
theorem N8 (ks:List dw) (k:Nat):(Ij ks k).length=k:=by
 induction k with
 | zero=>rfl
 | succ k ih=>rw[Ij,jh,ih];rfl
theorem Ye (l:List Int) (B:Int) (hB:0<=B) (h:∀x,x∈l->0<=x/\x<=B) (i:Nat):0<=l.getD i 0/\l.getD i 0<=B:=by
 rw[yw]
 cases e:l[i]? with
 | none=>exact⟨Int.le_refl _,hB⟩
 | some x=>exact h x (List.mem_of_getElem? e)
theorem aq0 (l:List Int) (n:Nat) (ay:List Int) (h:∀x,x∈l->0<=x/\x<=20001) (q:Nat):0<=Uz l n ay q/\Uz l n ay q<=n+q*20001:=by
 induction q with
 | zero=>simp only[Uz];omega
 | succ q ih =>
  have:=Ye l 20001 (by omega) h (ay.getD q 0).toNat;simp only[Uz];omega
theorem a3y (n:Int) (h:0<=n):0<=Xz n/\Xz n<=20001:=by
 unfold Xz
 split<;>omega
theorem avu (ks:List dw) (k:Nat):∀x,x∈Ij ks k->0<=x/\x<=20001:=by
 induction k with
 | zero=>intro x h;simp[Ij] at h
 | succ k ih =>
  intro x h;rw[Ij,Dx,yt] at h;rcases h with h|rfl
  ·exact ih x h
  ·cases ks[k]? with
   | none=>simp
   | some y=>exact a3y _ (aq0 _ _ _ ih _).1
theorem asn (ks:List dw) (k:dw) (s:lu) (a1 a2 a3 a4 a5 a6 mv ov cv av:Value) (w:cu) (hm:jc 7 160 C9 0 w mv ks) (h:Ot w k a1 a2 a3 a4 a5 a6) (h1:jc 1 16 xk 0 w ov s.au) (h2:jc 3 32 Gg 0 w cv s.code) (h3:jc 1 24 Ih 0 w av s.args)
  (hin:∀j (hj:j<k.ay.length),0<=k.ay[j]/\k.ay[j]<ks.length) :
  Calls Tryz.prog 83 #[.agg #[mv],.agg #[.string k.name,a1,a2,a3,a4,a5,a6],.agg #[.int .i64 s.kind,.string s.name,.int .i64 s.at_,ov,cv,av]] w (Ans (.bool (yg ks k s)) w):=by
 obtain⟨kd,nm,jl,au,code,args⟩:=s;simp only at h1 h2 h3 ⊢
 by_cases e1:kd=1
 ·subst e1;exact as1 ks k nm jl au code args a1 a2 a3 a4 a5 a6 mv ov cv av w hm h h1 h2 h3 hin
 by_cases e2:kd=2
 ·subst e2;exact as3 ks k nm jl au code args a1 a2 a3 a4 a5 a6 mv ov cv av w hm h h1 h2 h3 hin
 by_cases e3:kd=3
 ·subst e3;exact as5 ks k nm jl au code args a1 a2 a3 a4 a5 a6 mv ov cv av w hm h h1 h2 h3 hin
 by_cases e4:kd=4
 ·subst e4;exact as4 ks k nm jl au code args a1 a2 a3 a4 a5 a6 mv ov cv av w hm h h1 h2 h3 hin
 by_cases e5:kd=5
 ·subst e5;exact asy ks k nm jl au code args a1 a2 a3 a4 a5 a6 mv ov cv av w hm h h1 h2 h3 hin
 by_cases e6:kd=6
 ·subst e6;exact asz ks k nm jl au code args a1 a2 a3 a4 a5 a6 mv ov cv av w hm h h1 h2 h3 hin
 exact ams ks k nm jl au code args kd ⟨e1,e2,e3,e4,e5,e6⟩ a1 a2 a3 a4 a5 a6 mv ov cv av w hm h h1 h2 h3 hin
def ajd (ks:List dw):Prop:=∀i (hi:i<ks.length),ks[i].gq.length<=1000/\ks[i].ay.length<=1000/\∀q (hq:q<ks[i].ay.length),0<=ks[i].ay[q]/\ks[i].ay[q]<(i:Int)
theorem asj (ks:List dw) (v:Value) (w:cu) (h1:jc 7 160 C9 0 w v ks) (hio:ajd ks) (hnn:ks.length<=200) :
  Calls Tryz.prog 53 #[.agg #[v]] w fun e w'=>∃v,e=.returned v/\jc 1 8 Jv 0 w' v (Ij ks ks.length)/\Below w.heap.size w w':=by
 obtain⟨b0,c0,rfl⟩:=h1.shape;obtain⟨_,_,hv0,_,_,hx⟩:=h1;simp only[qw] at hv0;obtain⟨rfl,_,rfl⟩:=hv0;have HX:=ak hx;have HIO:=ak hio;clear hx hio;have P0:=ak ((iq w.heap.size w).alloc (gu _) (.cells #[.slice b0 ks.length c0] 24))
 have O0:Hid (En ((w.alloc (.cells #[.slice b0 ks.length c0] 24)).alloc (.cells #[] 3)) (w.heap.size+1) (w.heap.size+1) 0 []):=by
  have:=En.start (w.alloc (.cells #[.slice b0 ks.length c0] 24)) (w.heap.size+1) (by simp);show En _ _ _ _ _;simpa using this
 go_enter Tryz.func53,Tryz.ntmps53;go_wp2
 go_loopg [3,13] ks.length (fun gh wv i wr=>∃(k g cap:Nat),k<=ks.length/\gh=ks.length-k/\i=.int .i64 k/\wv=.slice (some ⟨g,0,none⟩) k cap/\En wr (w.heap.size+1) g cap (Ij ks k)/\Below (w.heap.size+1) (w.alloc (.cells #[.slice b0 ks.length c0] 24)) wr)
 case atStart=>exact⟨0,w.heap.size+1,0,jg _,by omega,rfl,rfl,uh O0,(iq _ _).alloc (by simp) _⟩
 case round =>
  obtain⟨k,g,cap,hk,hg,rfl,rfl,hown,aej⟩:=hrel;rename cu=>wN;have HG:=ak hg;have HOW:=ak hown;have Vf:=ak aej;have BN:Hid (Below w.heap.size w wN):=(uh P0).trans (aej.mono (Nat.le_succ _));have hgN:=hown.lt;have hgb:=hown.base;have hNs:w.heap.size+1<=wN.heap.size:=by have:=aej.size;simpa using this
  have HWL:=ak (N8 ks k);have HBD:=ak (avu ks k);have HD:=ak (hown.at (fun x hx=>by have:=avu ks k x hx;exact⟨rfl,by omega,by omega⟩) (by rw[N8];omega));clear hg hown aej
  by_cases hlt:k<ks.length
  case neg =>
   have e:k=ks.length:=by omega
   subst e;go_wp2;go_ret;refine⟨_,rfl,?_,uh BN⟩;have:=uh HD;rw[uh HWL] at this;exact this
  obtain⟨b,o,cs,Fe,_,hb,hcs,hc,hR⟩:=uh HX k hlt;subst Fe;have hR:=D9.stays _ _ _ _ _ (uh BN) hR;have hc:∀j (hj:j<cs.length),wN.cell? ⟨b,o+k*7+j,none⟩=some cs[j]:=fun j hj=>by rw[(uh BN).cell (p:=⟨b,_,none⟩) hb];exact hc j hj
  obtain⟨hm9,hi9,hin⟩:=uh HIO k hlt
  have as6:Hid (Ij ks (k+1)=Ij ks k++[Xz (Uz (Ij ks k) ks[k].gq.length ks[k].ay ks[k].ay.length)]):=by
   show Ij ks (k+1)=_;rw[Ij,jy hlt]
  generalize ks[k]=nd at *;obtain⟨s,ins,au,iw,gq,ay,body⟩:=nd;obtain⟨v1,v2,v3,v4,v5,v6,rfl,hsn,q1,q2,q3,q4,q5,q6⟩:=hR;simp only at hsn q1 q2 q3 q4 q5 q6 hm9 hi9 hin;obtain⟨b1,c1,rfl⟩:=q1.shape;obtain⟨b2,c2,rfl⟩:=q2.shape;obtain⟨b3,c3,rfl⟩:=q3.shape;obtain⟨b4,c4,rfl⟩:=q4.shape;obtain⟨b5,c5,rfl⟩:=q5.shape;obtain⟨b6,c6,rfl⟩:=q6.shape
  have HEL:Hid (∀q (hq:q<ay.length),∃ib io gi,b5=some ⟨ib,io,none⟩/\gi<k/\ay[q]=((gi:Nat):Int)/\∀w',Below wN.heap.size wN w'->w'.cell? ⟨ib,io+q,none⟩=some (.int .i64 (gi:Int))/\w'.cell? ⟨g,gi,none⟩=some (.int .i64 ((Ij ks k).getD gi 0))):=fun q hq=>by
   obtain⟨_,_,Dq,_,_,hex⟩:=q5;simp only[qw] at Dq;obtain⟨rfl,_,rfl⟩:=Dq;obtain⟨ib,io,cs,rfl,_,hib,_,hic,⟨rfl,_⟩⟩:=hex q hq;obtain⟨gi,hgi⟩:=Ht (hin q hq).1;have hgk:gi<k:=by have:=(hin q hq).2;omega
   refine⟨ib,io,gi,rfl,hgk,hgi,fun w' hb'=>⟨?_,?_⟩⟩
   ·rw[hb'.cell (p:=⟨ib,_,none⟩) hib]
    have h0:=hic 0 (by simp);rw[jr,ji] at h0;rw[h0,←hgi];rfl
   ·obtain⟨a8,c8,hv8,_,_,hx8⟩:=uh HD
    simp only[qw] at hv8;obtain⟨rfl,_,rfl⟩:=hv8;obtain⟨jb,jo,js,hjb,_,hjl,_,hjc,⟨rfl,_⟩⟩:=hx8 gi (by rw[uh HWL];exact hgk);simp only[uw,Addr.mk.injEq] at hjb;obtain⟨rfl,rfl,_⟩:=hjb;rw[hb'.cell (p:=⟨g,_,none⟩) hjl];have h0:=hjc 0 (by simp);rw[jr,ji,Ba] at h0;rw[h0,yw,jy (by rw[uh HWL];exact hgk)];rfl
  have y0:=hc 0 (by simp);have y1:=hc 1 (by simp);have y2:=hc 2 (by simp);have y3:=hc 3 (by simp);have y4:=hc 4 (by simp);have y5:=hc 5 (by simp);have y6:=hc 6 (by simp);simp only[jr,ji,og,ou] at y0 y1 y2 y3 y4 y5 y6;simp only at as6;clear q1 q2 q3 q4 q5 q6 hc hcs hin HD HX;have U3:=ak (fun q=>aq0 (Ij ks k) gq.length ay (uh HBD) q);go_wp2
  go_loopg [6,23] ay.length (fun gh n i wr=>∃(q:Nat),q<=ay.length/\gh=ay.length-q/\i=.int .i64 q/\n=.int .i64 (Uz (Ij ks k) gq.length ay q)/\wr=wN.alloc (.cells #[.string s,.slice b1 ins.length c1,.slice b2 au.length c2,.slice b3 iw.length c3,.slice b4 gq.length c4,.slice b5 ay.length c5,.slice b6 body.length c6] 50))
  case atStart=>exact⟨0,jg _,by omega,rfl,rfl,rfl⟩
  case round =>
   obtain⟨q,hq,hg2,rfl,rfl,hwr⟩:=hrel;have HG2:=ak hg2;have hba:Below wN.heap.size wN (wN.alloc (.cells #[.string s,.slice b1 ins.length c1,.slice b2 au.length c2,.slice b3 iw.length c3,.slice b4 gq.length c4,.slice b5 ay.length c5,.slice b6 body.length c6] 50)):=(iq _ _).alloc (gu _) _;have hz:(wN.alloc (.cells #[.string s,.slice b1 ins.length c1,.slice b2 au.length c2,.slice b3 iw.length c3,.slice b4 gq.length c4,.slice b5 ay.length c5,.slice b6 body.length c6] 50)).heap.size=wN.heap.size+1:=by simp
   rw[←hwr] at hba hz;rename cu=>wq;have Ws:=ak hba;have HWR:Hid (wq=wN.alloc (.cells #[.string s,.slice b1 ins.length c1,.slice b2 au.length c2,.slice b3 iw.length c3,.slice b4 gq.length c4,.slice b5 ay.length c5,.slice b6 body.length c6] 50)):=hwr;clear hg2 hwr y0 y1 y2 y3 y4 y5 y6;obtain⟨hs1,hs2⟩:=uh U3 q
   by_cases a7c:q<ay.length
   case neg =>
    have e:q=ay.length:=by omega
    have Oc:Hid (Ij ks (k+1)=Ij ks k++[Xz (Uz (Ij ks k) gq.length ay q)]):=by
     show Ij ks (k+1)=_;rw[uh as6,e]
    have HQ:=ak ((uh Vf).trans (hba.mono hNs));have HOQ:=ak ((uh HOW).below hba);clear as6 hba HEL;generalize Uz (Ij ks k) gq.length ay q=sm at *
    by_cases hgt:20000<sm
    ·have f1:decide (20000<sm)=true:=jf hgt
     have e9:Xz sm=20001:=by unfold Xz;rw[gy hgt]
     rw[e9] at Oc;have ang:Hid (En (wq.alloc (.cells #[.int .i64 20001] 3)) (w.heap.size+1) g cap (Ij ks k)):=(uh HOQ).below ((iq _ _).alloc (gu _) _);have Wj:Hid (Below (w.heap.size+1) _ (wq.alloc (.cells #[.int .i64 20001] 3))):=(uh HQ).trans ((iq _ _).alloc (by omega) _);have HZ:=ak hz;clear e9 hgt e hz;go_wp2_with (at_builtin;go_must (refine Sr _ rfl _ _ rfl (w.heap.size+1) g cap (Ij ks k) (by rw[uh HWL];rfl) (uh ang) wq.heap.size 20001 rfl (by rw[zu _ _ _ _ rfl];rfl) (by rw[uh HWL];omega) (by have:=uh HZ;simp;omega) ?_));intro g' cap' w7 J6 Sv;have B7:=V6 (uh Wj) Sv (by have:=uh HZ;simp;omega) hgb;rw[←uh Oc] at J6;have Xd:=ak J6;have Zn:=ak B7;rw[uh HWL];clear J6 Sv B7;go_wp2
     go_roundg (ks.length-(k+1))
     case measure=>have:=uh HG;omega
     case rel=>exact⟨k+1,g',cap',by omega,rfl,by go_num,rfl,uh Xd,uh Zn⟩
    ·have f1:decide (20000<sm)=false:=iy hgt
     have e9:Xz sm=sm:=by unfold Xz;rw[bf hgt]
     rw[e9] at Oc;have ang:Hid (En (wq.alloc (.cells #[.int .i64 sm] 3)) (w.heap.size+1) g cap (Ij ks k)):=(uh HOQ).below ((iq _ _).alloc (gu _) _);have Wj:Hid (Below (w.heap.size+1) _ (wq.alloc (.cells #[.int .i64 sm] 3))):=(uh HQ).trans ((iq _ _).alloc (by omega) _);have HZ:=ak hz;clear e9 hgt e hz;go_wp2_with (at_builtin;go_must (refine Sr _ rfl _ _ rfl (w.heap.size+1) g cap (Ij ks k) (by rw[uh HWL];rfl) (uh ang) wq.heap.size sm rfl (by rw[zu _ _ _ _ rfl];rfl) (by rw[uh HWL];omega) (by have:=uh HZ;simp;omega) ?_));intro g' cap' w7 J6 Sv;have B7:=V6 (uh Wj) Sv (by have:=uh HZ;simp;omega) hgb;rw[←uh Oc] at J6;have Xd:=ak J6;have Zn:=ak B7;rw[uh HWL];clear J6 Sv B7;go_wp2
     go_roundg (ks.length-(k+1))
     case measure=>have:=uh HG;omega
     case rel=>exact⟨k+1,g',cap',by omega,rfl,by go_num,rfl,uh Xd,uh Zn⟩
   obtain⟨ib,io,gi,rfl,hgk,hgi,a7d⟩:=uh HEL q a7c;obtain⟨z1,z2⟩:=a7d _ hba
   have HST:Hid (Uz (Ij ks k) gq.length ay (q+1)=Uz (Ij ks k) gq.length ay q+(Ij ks k).getD gi 0):=by
    show Uz _ _ _ (q+1)=_;rw[Uz,yw (l:=ay),jy a7c,Kw,hgi,Ed]
   obtain⟨hg1,hg2⟩:=Ye (Ij ks k) 20001 (by omega) (uh HBD) gi;have ben:(q:Int)<(ay.length:Int):=by omega
   have bev:(gi:Int)<(k:Int):=by omega
   clear a7d hgi HEL hba hz;generalize (Ij ks k).getD gi 0=gv at *;generalize hS1:Uz (Ij ks k) gq.length ay q=sm at *;clear hS1;go_wp2
   go_roundg (ay.length-(q+1))
   case measure=>have:=uh HG2;omega
   case rel=>exact⟨q+1,by omega,rfl,by go_num,by rw[uh HST],uh HWR⟩
def Ll (n:Int):Int:=if 400000<n then 400001 else n
def maxS (a b:Int):Int:=if a<b then b else a
def costs (ay known:List Int) (body:List lu):List (Int×Int):=body.map fun s=>(s.kind,known.getD (ay.getD s.at_.toNat 0).toNat 0)
def O5 (rec:List (Int×Int)->Int) (ps:List (Int×Int)):Nat->Nat->Int->Int
 | 0,_,sum=>sum
 | f+1,i,sum=>match ps[i]? with
  | none=>sum
  | some p =>
   if p.1=4 then O5 rec ps f ((uo (ps.map Prod.fst) i).2.toNat+1) (Ll (sum+(1+maxS (rec (wz ps (i+1) (uo (ps.map Prod.fst) i).1.toNat)) (rec (wz ps ((uo (ps.map Prod.fst) i).1.toNat+1) (uo (ps.map Prod.fst) i).2.toNat)))))
   else if p.1=3 then O5 rec ps f (i+1) (Ll (sum+(1+p.2)))
   else O5 rec ps f (i+1) (Ll (sum+1))
def sumF:Nat->List (Int×Int)->Int
 | 0,_=>0
 | f+1,ps=>O5 (sumF f) ps (ps.length+1) 0 0
theorem P7 (n:Int) (h:0<=n):0<=Ll n/\Ll n<=400001:=by
 unfold Ll
 split<;>omega
theorem ag0 (a b B:Int) (h1:0<=a/\a<=B) (h2:0<=b/\b<=B):0<=maxS a b/\maxS a b<=B:=by
 unfold maxS
 split<;>omega
theorem a3z (rec:List (Int×Int)->Int) (ps:List (Int×Int)) (hp:∀p,p∈ps->0<=p.2/\p.2<=400001) (hr:∀p q,0<=rec (wz ps p q)/\rec (wz ps p q)<=400001):∀(f i:Nat) (sum:Int),0<=sum->sum<=400001->0<=O5 rec ps f i sum/\O5 rec ps f i sum<=400001:=by
 intro f
 induction f with
 | zero=>intro i sum h1 h2;exact⟨h1,h2⟩
 | succ f ih =>
  intro i sum h1 h2;rw[O5]
  split
  ·exact⟨h1,h2⟩
  ·rename_i p he
   have hpp:=hp p (List.mem_of_getElem? he)
   split
   ·have hm:=ag0 _ _ _ (hr (i+1) (uo (ps.map Prod.fst) i).1.toNat) (hr ((uo (ps.map Prod.fst) i).1.toNat+1) (uo (ps.map Prod.fst) i).2.toNat)
    have hc:=P7 (sum+(1+maxS (rec (wz ps (i+1) (uo (ps.map Prod.fst) i).1.toNat)) (rec (wz ps ((uo (ps.map Prod.fst) i).1.toNat+1) (uo (ps.map Prod.fst) i).2.toNat)))) (by omega);exact ih _ _ hc.1 hc.2
   ·split
    ·have hc:=P7 (sum+(1+p.2)) (by omega)
     exact ih _ _ hc.1 hc.2
    ·have hc:=P7 (sum+1) (by omega)
     exact ih _ _ hc.1 hc.2
theorem akg {α:Type} {ks:List α} {p q:Nat} {x:α} (h:x∈wz ks p q):x∈ks:=List.mem_of_mem_drop (List.mem_of_mem_take h)
theorem akd:∀(f:Nat) (ps:List (Int×Int)),(∀p,p∈ps->0<=p.2/\p.2<=400001)->0<=sumF f ps/\sumF f ps<=400001:=by
 intro f
 induction f with
 | zero=>intro ps _;exact⟨Int.le_refl _,by simp[sumF]⟩
 | succ f ih =>
  intro ps h;exact a3z (sumF f) ps h (fun p q=>ih _ (fun x hx=>h x (akg hx))) _ _ _ (Int.le_refl _) (by omega)
theorem avv (ay known:List Int) (body:List lu):(costs ay known body).map Prod.fst=jm body:=by
 unfold costs jm;rw[List.map_map];rfl
theorem ahw (ay known:List Int) (body:List lu) (h:∀x,x∈known->0<=x/\x<=400001):∀p,p∈costs ay known body->0<=p.2/\p.2<=400001:=by
 intro p hp;unfold costs at hp;rw[List.mem_map] at hp;obtain⟨s,_,rfl⟩:=hp;exact Ye known 400001 (by omega) h _
theorem afs (rec:List (Int×Int)->Int) (ay known:List Int) (body:List lu) (f i:Nat) (sum:Int) (hi:i<body.length):O5 rec (costs ay known body) (f+1) i sum =
  (if body[i].kind=4 then O5 rec (costs ay known body) f ((uo (jm body) i).2.toNat+1) (Ll (sum+(1+maxS (rec (wz (costs ay known body) (i+1) (uo (jm body) i).1.toNat)) (rec (wz (costs ay known body) ((uo (jm body) i).1.toNat+1) (uo (jm body) i).2.toNat)))))
   else if body[i].kind=3 then O5 rec (costs ay known body) f (i+1) (Ll (sum+(1+known.getD (ay.getD body[i].at_.toNat 0).toNat 0)))
   else O5 rec (costs ay known body) f (i+1) (Ll (sum+1))):=by
 rw[O5]
 have e:(costs ay known body)[i]?=some (body[i].kind,known.getD (ay.getD body[i].at_.toNat 0).toNat 0):=by
  unfold costs;rw[List.getElem?_map,jy hi];rfl
 rw[e,avv]
theorem anj (rec:List (Int×Int)->Int) (ay known:List Int) (body:List lu) (f:Nat) (sum:Int):O5 rec (costs ay known body) f body.length sum=sum:=by
 cases f with
 | zero=>rfl
 | succ f =>
  have e:(costs ay known body)[body.length]?=none:=by unfold costs;simp
  rw[O5,e]
def aqv (ay known:List Int) (body:List lu):Prop:=∀s,s∈body->s.kind=3->∃ia gi:Nat,s.at_=(ia:Int)/\ia<ay.length/\ay.getD ia 0=(gi:Int)/\gi<known.length
theorem ayn (nm:dh) (ay known:List Int) (b1 b2 b3 b4 b5 b6 bk:Option Addr) (n1 n2 n3 n4 n6 c1 c2 c3 c4 c5 c6 ck:Nat) (hkb:∀x,x∈known->0<=x/\x<=400001):∀(f:Nat) (body:List lu) (v:Value) (depth:Int) (w:cu),jc 6 104 Zq 0 w v body->jc 1 8 Jv 0 w (.slice b5 ay.length c5) ay->jc 1 8 Jv 0 w (.slice bk known.length ck) known->aqv ay known body->body.length<f->Em f (jm body) depth=true ->
  Calls Tryz.prog 87 #[.agg #[.string nm,.slice b1 n1 c1,.slice b2 n2 c2,.slice b3 n3 c3,.slice b4 n4 c4,.slice b5 ay.length c5,.slice b6 n6 c6],v,.slice bk known.length ck] w fun e w'=>e=.returned (.int .i64 (sumF f (costs ay known body)))/\Below w.heap.size w w':=by
 intro f
 induction f with
 | zero=>intro body v depth w _ _ _ _ h;omega
 | succ f ih =>
  intro body v depth w hv hI hK a7e hlf as7;have HPT:=ak (fun i (hi:i<=body.length) w' (hb:Below w.heap.size w w')=>aem body v i w' (hv.stays Px hb) hi);have hkl:(jm body).length=body.length:=by unfold jm;simp
  have HV:=ak hv;have HII:=ak hI;have HKK:=ak hK;have ay8:=ak a7e;obtain⟨a,cap,rfl,⟨_,hcap⟩,hn,hx⟩:=hv;unfold Len at hn;have HX:=ak hx;have li:=hI.Bh;have lk:=hK.Bh
  have HR:Hid (sumF (f+1) (costs ay known body)=O5 (sumF f) (costs ay known body) (body.length+1) 0 0):=by
   show sumF (f+1) (costs ay known body)=_;rw[sumF];unfold costs;rw[zy]
  have HNE:Hid (Rz (Em f) (jm body) depth (body.length+1) 0=true):=by
   show _=true;rw[Em,hkl] at as7;exact as7
  have HK:=ak (fun j (hj:j<body.length)=>Xy body j hj)
  have HSN:=ak (fun g i (hi:i<body.length)=>by
   have h:=Yz (Em f) (jm body) depth g i (by rw[hkl];exact hi);rw[uh HK i hi] at h;exact h)
  have HST:=ak (fun g i sum (hi:i<body.length)=>afs (sumF f) ay known body g i sum hi);have Wv:=ak (fun g sum=>anj (sumF f) ay known body g sum)
  have HPB:=ak (fun i (hi:i<body.length) (h4:body[i].kind=4) h1 h2=>by
   have h:=ahy (jm body) i (by rw[hkl];exact hi) (by rw[uh HK i hi];exact h4) h1 h2;rw[hkl] at h;exact h)
  have hA:Below w.heap.size w (w.alloc (.cells #[.string nm,.slice b1 n1 c1,.slice b2 n2 c2,.slice b3 n3 c3,.slice b4 n4 c4,.slice b5 ay.length c5,.slice b6 n6 c6] 50)):=(iq _ _).alloc (gu _) _;have U2:jd (w.alloc (.cells #[.string nm,.slice b1 n1 c1,.slice b2 n2 c2,.slice b3 n3 c3,.slice b4 n4 c4,.slice b5 ay.length c5,.slice b6 n6 c6] 50)) w.heap.size 50 #[.string nm,.slice b1 n1 c1,.slice b2 n2 c2,.slice b3 n3 c3,.slice b4 n4 c4,.slice b5 ay.length c5,.slice b6 n6 c6]:=oh w #[.string nm,.slice b1 n1 c1,.slice b2 n2 c2,.slice b3 n3 c3,.slice b4 n4 c4,.slice b5 ay.length c5,.slice b6 n6 c6] 50;obtain⟨BX,mg⟩:∃BX:cu->Prop,∀w',BX w'↔Below (w.heap.size+1) (w.alloc (.cells #[.string nm,.slice b1 n1 c1,.slice b2 n2 c2,.slice b3 n3 c3,.slice b4 n4 c4,.slice b5 ay.length c5,.slice b6 n6 c6] 50)) w':=⟨_,fun _=>Iff.rfl⟩;have Xe:(w.alloc (.cells #[.string nm,.slice b1 n1 c1,.slice b2 n2 c2,.slice b3 n3 c3,.slice b4 n4 c4,.slice b5 ay.length c5,.slice b6 n6 c6] 50)).heap.size=w.heap.size+1:=by simp
  have Ag:Hid (∀w1,BX w1->Below w.heap.size w w1):=fun w1 h=>hA.trans (((mg w1).1 h).mono (by omega))
  have F8:Hid (∀w1 w2,BX w1->Below w1.heap.size w1 w2->BX w2):=fun w1 w2 h h2=>(mg w2).2 (((mg w1).1 h).trans (h2.mono (by have:=((mg w1).1 h).size;omega)))
  have Jo:Hid (∀w1,BX w1->w1.cell? ⟨w.heap.size,0,none⟩=some (.string nm)/\w1.cell? ⟨w.heap.size,1,none⟩=some (.slice b1 n1 c1)/\w1.cell? ⟨w.heap.size,2,none⟩=some (.slice b2 n2 c2)/\w1.cell? ⟨w.heap.size,3,none⟩=some (.slice b3 n3 c3)/\w1.cell? ⟨w.heap.size,4,none⟩=some (.slice b4 n4 c4)/\w1.cell? ⟨w.heap.size,5,none⟩=some (.slice b5 ay.length c5)/\w1.cell? ⟨w.heap.size,6,none⟩=some (.slice b6 n6 c6)):=fun w1 h=>⟨(U2.below ((mg w1).1 h) (by omega)).cell (i:=0) (v:=.string nm) rfl,(U2.below ((mg w1).1 h) (by omega)).cell (i:=1) (v:=.slice b1 n1 c1) rfl,(U2.below ((mg w1).1 h) (by omega)).cell (i:=2) (v:=.slice b2 n2 c2) rfl,(U2.below ((mg w1).1 h) (by omega)).cell (i:=3) (v:=.slice b3 n3 c3) rfl,(U2.below ((mg w1).1 h) (by omega)).cell (i:=4) (v:=.slice b4 n4 c4) rfl,(U2.below ((mg w1).1 h) (by omega)).cell (i:=5) (v:=.slice b5 ay.length c5) rfl,(U2.below ((mg w1).1 h) (by omega)).cell (i:=6) (v:=.slice b6 n6 c6) rfl⟩
  have HX0:Hid (BX (w.alloc (.cells #[.string nm,.slice b1 n1 c1,.slice b2 n2 c2,.slice b3 n3 c3,.slice b4 n4 c4,.slice b5 ay.length c5,.slice b6 n6 c6] 50))):=(mg _).2 (iq _ _)
  have HIH:Hid (∀p q b o,a=some ⟨b,o,none⟩->p<=q->q<=body.length->0<p->Em f (wz (jm body) p q) (depth+1)=true->∀w0,BX w0->Calls Tryz.prog 87 #[.agg #[.string nm,.slice b1 n1 c1,.slice b2 n2 c2,.slice b3 n3 c3,.slice b4 n4 c4,.slice b5 ay.length c5,.slice b6 n6 c6],.slice (some ⟨b,o+p*6,none⟩) (q-p) (cap-p),.slice bk known.length ck] w0.drew fun e w'=>e=.returned (.int .i64 (sumF f (wz (costs ay known body) p q)))/\BX w'/\w'.cell? ⟨w.heap.size,0,none⟩=some (.string nm)/\w'.cell? ⟨w.heap.size,1,none⟩=some (.slice b1 n1 c1)/\w'.cell? ⟨w.heap.size,2,none⟩=some (.slice b2 n2 c2)/\w'.cell? ⟨w.heap.size,3,none⟩=some (.slice b3 n3 c3)/\w'.cell? ⟨w.heap.size,4,none⟩=some (.slice b4 n4 c4)/\w'.cell? ⟨w.heap.size,5,none⟩=some (.slice b5 ay.length c5)/\w'.cell? ⟨w.heap.size,6,none⟩=some (.slice b6 n6 c6)):=fun p q b o ha hp hq h0 hne w0 hb0=>by
   subst ha;have hdr:=uh F8 _ _ hb0 (iq _ w0).drew;have hbw:=uh Ag _ hdr;have hs:=((uh HV).stays Px hbw).sub p q hp hq;have hl:=Rj body p q hp hq;have e:jm (wz body p q)=wz (jm body) p q:=aek _ _ _ _;have e2:costs ay known (wz body p q)=wz (costs ay known body) p q:=aek _ _ _ _;have h:=ih (wz body p q) _ (depth+1) w0.drew hs ((uh HII).stays E8 hbw) ((uh HKK).stays E8 hbw) (fun s hs=>uh ay8 s (akg hs)) (by omega) (by rw[e];exact hne);rw[e2] at h;refine h.mono ?_;rintro e w' ⟨rfl,hb'⟩;have hx':=uh F8 _ _ hdr hb';exact⟨rfl,hx',uh Jo _ hx'⟩
  have Vo:Hid (∀i (hi:i<body.length),body[i].kind=3->∃ia gi ib io kb ko,body[i].at_=((ia:Nat):Int)/\ia<ay.length/\gi<known.length/\known.getD (ay.getD body[i].at_.toNat 0).toNat 0=known.getD gi 0/\b5=some ⟨ib,io,none⟩/\bk=some ⟨kb,ko,none⟩/\∀w',BX w'->w'.cell? ⟨ib,io+ia,none⟩=some (.int .i64 ((gi:Nat):Int))/\w'.cell? ⟨kb,ko+gi,none⟩=some (.int .i64 (known.getD gi 0))):=fun i hi h3=>by
   obtain⟨ia,gi,e1,e2,e3,e4⟩:=uh ay8 body[i] (o7 hi) h3;obtain⟨_,_,hv1,_,_,hx1⟩:=uh HII;simp only[qw] at hv1;obtain⟨rfl,_,rfl⟩:=hv1;obtain⟨ib,io,_,rfl,_,hib,_,hic,⟨rfl,_⟩⟩:=hx1 ia e2;obtain⟨_,_,hv2,_,_,hx2⟩:=uh HKK;simp only[qw] at hv2;obtain⟨rfl,_,rfl⟩:=hv2;obtain⟨kb,ko,_,rfl,_,hkb',_,hkc,⟨rfl,_⟩⟩:=hx2 gi e4
   have e5:ay[ia]=(gi:Int):=by
    rw[yw,jy e2] at e3;exact e3
   refine⟨ia,gi,ib,io,kb,ko,e1,e2,e4,by rw[e1,Ed,e3,Ed],rfl,rfl,fun w' hb'=>⟨?_,?_⟩⟩
   ·rw[(uh Ag _ hb').cell (p:=⟨ib,_,none⟩) hib]
    have h0:=hic 0 (by simp);rw[jr,ji] at h0;rw[h0,←e5];rfl
   ·rw[(uh Ag _ hb').cell (p:=⟨kb,_,none⟩) hkb']
    have h0:=hkc 0 (by simp);rw[jr,ji] at h0;rw[h0,yw,jy e4];rfl
  have U3:=ak (fun p q=>akd f (wz (costs ay known body) p q) (fun x hx=>ahw ay known body hkb x (akg hx)));have HGB:=ak (fun i=>Ye known 400001 (by omega) hkb i);clear hx hkl ih HV HK hA U2 mg Xe HII HKK ay8 hI hK a7e as7 hkb;generalize sumF (f+1) (costs ay known body)=R at *;generalize costs ay known body=ps at *;generalize jm body=ks at *;go_enter Tryz.func87,Tryz.ntmps87;go_wp2
  go_loopg [7,8] (body.length) (fun g sv iv wr=>∃(i fu:Nat) (sum:Int),i<=body.length/\g=body.length-i/\iv=.int .i64 i/\sv=.int .i64 sum/\body.length<fu+i/\0<=sum/\sum<=400001/\R=O5 (sumF f) ps fu i sum/\Rz (Em f) ks depth fu i=true/\BX wr)
  case atStart=>exact⟨0,body.length+1,0,jg _,by omega,rfl,rfl,by omega,by omega,by omega,uh HR,uh HNE,uh HX0⟩
  case round =>
   obtain⟨i,fu,sum,hi,hg,rfl,rfl,hfu,hs1,hs2,hR,hN,hbx⟩:=hrel;rename cu=>wr;have HG:=ak hg;have HRR:=ak hR;have HNN:=ak hN;have D5:=ak hbx;clear hg hR hN
   by_cases hlt:i<body.length
   case neg =>
    have e:i=body.length:=by omega
    subst e;have HF:=ak ((uh HRR).trans (uh Wv fu sum));have HB:=ak (uh Ag _ hbx);go_wp2;go_ret;exact⟨by rw[uh HF];rfl,uh HB⟩
   obtain⟨b,o,cs,Fe,_,hb,hcs,hc,⟨q1,q2,q3,rfl,-⟩⟩:=uh HX i hlt;have HAB:=ak Fe;have r0:=hc 0 (by simp);have r2:=hc 2 (by simp);simp only[ji,og,ou] at r0 r2;rw[←(uh Ag _ hbx).cell (p:=⟨b,_,none⟩) hb] at r0 r2;obtain⟨k0,k1,k2,k3,k4,k5,k6⟩:=uh Jo _ hbx;obtain⟨Ru,rfl⟩:∃Ru,fu=Ru+1:=⟨fu-1,by omega⟩;have HS:=ak ((uh HRR).trans (uh HST Ru i sum hlt));have hnn:=uh HNN;rw[uh HSN Ru i hlt] at hnn;have afu:=ak (uh HPB i hlt);have Ns:=ak (uh HPT i hi _ (uh Ag _ hbx));have HI2:=ak (fun p q=>uh HIH p q b o (uh HAB));have as8:=ak (uh Vo i hlt);subst Fe;have hlt':(i:Int)<(body.length:Int):=by omega
   clear hc hcs HRR HNN hbx;generalize body[i].kind=kd at *;generalize body[i].at_=av at *
   by_cases Y0:kd=5\/kd=6
   ·rw[gy Y0] at hnn
    cases hnn
   rw[bf Y0] at hnn
   by_cases h4:kd=4
   case neg =>
    rw[bf h4] at hnn;have Oc:=ak hnn;have hS:=uh HS;rw[bf h4] at hS;have y4:(kd==4)=false:=by rw[su];omega
    clear HS hnn Y0 h4 afu Ns HI2
    by_cases h3:kd=3
    ·rw[gy h3] at hS
     have y3:(kd==3)=true:=by simp[h3]
     obtain⟨ia,gi,ib,io,kb,ko,rfl,hia,hgi,heq,rfl,rfl,hce⟩:=uh as8 h3;rw[heq] at hS;have HS:=ak hS;obtain⟨u1,u2⟩:=hce _ (uh D5);obtain⟨v1,v2⟩:=uh HGB gi;have bew:(ia:Int)<(ay.length:Int):=by omega
     have hgi':(gi:Int)<(known.length:Int):=by omega
     clear hS h3 hce heq as8 Vo HIH;generalize known.getD gi 0=gv at *;have HQn:Hid (∀n,BX (wr.drewN n)):=fun n=>uh F8 _ _ (uh D5) ⟨rfl,rfl,rfl,gu _,fun _ _=>rfl⟩
     by_cases hgt:400000<sum+(1+gv)
     ·have f9:decide (400000<sum+(1+gv))=true:=jf hgt
      have HF:Hid (R=O5 (sumF f) ps Ru (i+1) 400001):=(uh HS).trans (by unfold Ll;rw[gy hgt]);clear HS hgt;go_wp2_with fail;go_quiet ((fail));go_wp2
      go_roundg (body.length-(i+1))
      case measure=>have:=uh HG;omega
      case rel=>exact⟨i+1,Ru,400001,by omega,rfl,by go_num,rfl,by omega,by omega,by omega,uh HF,uh Oc,uh HQn _⟩
     ·have f9:decide (400000<sum+(1+gv))=false:=iy hgt
      have HF:Hid (R=O5 (sumF f) ps Ru (i+1) (sum+(1+gv))):=(uh HS).trans (by unfold Ll;rw[bf hgt]);clear HS;go_wp2_with fail;go_quiet ((fail));go_wp2
      go_roundg (body.length-(i+1))
      case measure=>have:=uh HG;omega
      case rel=>exact⟨i+1,Ru,sum+(1+gv),by omega,rfl,by go_num,rfl,by omega,by omega,by omega,uh HF,uh Oc,uh HQn _⟩
    ·rw[bf h3] at hS
     have y3:(kd==3)=false:=by simp[h3]
     have HS:=ak hS;clear hS h3 as8 Vo HIH
     by_cases hgt:400000<sum+1
     ·have f9:decide (400000<sum+1)=true:=jf hgt
      have HF:Hid (R=O5 (sumF f) ps Ru (i+1) 400001):=(uh HS).trans (by unfold Ll;rw[gy hgt]);clear HS hgt;go_wp2
      go_roundg (body.length-(i+1))
      case measure=>have:=uh HG;omega
      case rel=>exact⟨i+1,Ru,400001,by omega,rfl,by go_num,rfl,by omega,by omega,by omega,uh HF,uh Oc,uh D5⟩
     ·have f9:decide (400000<sum+1)=false:=iy hgt
      have HF:Hid (R=O5 (sumF f) ps Ru (i+1) (sum+1)):=(uh HS).trans (by unfold Ll;rw[bf hgt]);clear HS;go_wp2
      go_roundg (body.length-(i+1))
      case measure=>have:=uh HG;omega
      case rel=>exact⟨i+1,Ru,sum+1,by omega,rfl,by go_num,rfl,by omega,by omega,by omega,uh HF,uh Oc,uh D5⟩
   rw[gy h4] at hnn;have y4:(kd==4)=true:=by simp[h4]
   have afv:=ak (uh afu h4);have hS:=uh HS;rw[gy h4] at hS;clear HS afu Y0 h4 as8 Vo;generalize uo ks i=pp at *;obtain⟨po,pe⟩:=pp;simp only at hS hnn afv Ns
   by_cases hneg:po<0\/pe<0
   ·rw[gy hneg] at hnn
    cases hnn
   rw[bf hneg] at hnn;have hpb:=uh afv (by omega) (by omega);obtain⟨pn,rfl⟩:=Ht (show 0<=po by omega);obtain⟨en,rfl⟩:=Ht (show 0<=pe by omega);simp only[Ed] at hS hnn
   split at hnn
   ·cases hnn
   split at hnn
   ·cases hnn
   rename_i hne1
   split at hnn
   ·cases hnn
   rename_i hne2
   rw[Bool.not_eq_false] at hne1 hne2;have Ap:=ak (uh HI2 (i+1) pn (by omega) (by omega) (by omega) hne1 wr (uh D5));have HC2:=ak (fun w0 hb0=>uh HI2 (pn+1) en (by omega) (by omega) (by omega) hne2 w0 hb0);have Oc:=ak hnn;have g1:(0:Int)<=(i:Int)+1:=by omega
   have g2:(i:Int)+1<=(pn:Int):=by omega
   have g3:(pn:Int)<=(cap:Int):=by omega
   have g4:(0:Int)<=(pn:Int)+1:=by omega
   have g5:(pn:Int)+1<=(en:Int):=by omega
   have g6:(en:Int)<=(cap:Int):=by omega
   have wr1:IntKind.i64.wrap ((i:Int)+1)=(i:Int)+1:=by rw[Qw];omega
   have wr2:IntKind.i64.wrap ((pn:Int)+1)=(pn:Int)+1:=by rw[Qw];omega
   have cn1:¬cap=i+1:=by omega
   have cn2:¬cap=pn+1:=by omega
   have hnb:i+1<=pn/\pn+1<=en/\en<body.length:=by omega
   obtain⟨t1,t2⟩:=uh U3 (i+1) pn;obtain⟨t3,t4⟩:=uh U3 (pn+1) en;have HS:=ak hS;clear afv HI2 hneg hpb hne1 hne2 hnn hS HIH U3 HPT HPB r2;generalize sumF f (wz ps (i+1) pn)=v1 at *;generalize sumF f (wz ps (pn+1) en)=v2 at *
   by_cases as9:v1<v2
   ·have e5:decide (v1<v2)=true:=jf as9
    have e6:maxS v1 v2=v2:=by unfold maxS;rw[gy as9]
    rw[e6] at HS;clear e6
    by_cases hgt:400000<sum+(1+v2)
    ·have f9:decide (400000<sum+(1+v2))=true:=jf hgt
     have HF:Hid (R=O5 (sumF f) ps Ru (en+1) 400001):=(uh HS).trans (by unfold Ll;rw[gy hgt]);clear HS hgt;go_wp2_with fail;refine(uh Ns).mono ?_;rintro e w9 ⟨rfl,h9⟩;obtain rfl:=h9.symm;clear h9;clear Ns HST Wv HSN HX HR HNE HGB HX0 r0 y4;go_wp2_with fail
     go_region_held3 (fun w'=>w'.cell? ⟨w.heap.size,0,none⟩=some (.string nm)/\w'.cell? ⟨w.heap.size,1,none⟩=some (.slice b1 n1 c1)/\w'.cell? ⟨w.heap.size,2,none⟩=some (.slice b2 n2 c2)/\w'.cell? ⟨w.heap.size,3,none⟩=some (.slice b3 n3 c3)/\w'.cell? ⟨w.heap.size,4,none⟩=some (.slice b4 n4 c4)/\w'.cell? ⟨w.heap.size,5,none⟩=some (.slice b5 ay.length c5)/\w'.cell? ⟨w.heap.size,6,none⟩=some (.slice b6 n6 c6)) (go_keep) (first|(go_at_call 87;refine(uh Ap).mono ?_;rintro e w8 ⟨rfl,hBm,m0,m1,m2,m3,m4,m5,m6⟩))
     have Vh:=ak (uh HC2 w8 hBm);clear HC2 Ap;go_wp2_with fail
     go_region_held3 (fun w'=>w'.cell? ⟨w.heap.size,0,none⟩=some (.string nm)/\w'.cell? ⟨w.heap.size,1,none⟩=some (.slice b1 n1 c1)/\w'.cell? ⟨w.heap.size,2,none⟩=some (.slice b2 n2 c2)/\w'.cell? ⟨w.heap.size,3,none⟩=some (.slice b3 n3 c3)/\w'.cell? ⟨w.heap.size,4,none⟩=some (.slice b4 n4 c4)/\w'.cell? ⟨w.heap.size,5,none⟩=some (.slice b5 ay.length c5)/\w'.cell? ⟨w.heap.size,6,none⟩=some (.slice b6 n6 c6)) (go_keep) (first|(go_at_call 87;refine(uh Vh).mono ?_;rintro e w7 ⟨rfl,hBl,l0,l1,l2,l3,l4,l5,l6⟩))
     have Ae:=ak hBl;go_wp2
     go_roundg (body.length-(en+1))
     case measure=>have:=uh HG;omega
     case rel=>exact⟨en+1,Ru,400001,by omega,rfl,by go_num,rfl,by omega,by omega,by omega,uh HF,uh Oc,uh Ae⟩
    ·have f9:decide (400000<sum+(1+v2))=false:=iy hgt
     have HF:Hid (R=O5 (sumF f) ps Ru (en+1) (sum+(1+v2))):=(uh HS).trans (by unfold Ll;rw[bf hgt]);clear HS;go_wp2_with fail;refine(uh Ns).mono ?_;rintro e w9 ⟨rfl,h9⟩;obtain rfl:=h9.symm;clear h9;clear Ns HST Wv HSN HX HR HNE HGB HX0 r0 y4;go_wp2_with fail
     go_region_held3 (fun w'=>w'.cell? ⟨w.heap.size,0,none⟩=some (.string nm)/\w'.cell? ⟨w.heap.size,1,none⟩=some (.slice b1 n1 c1)/\w'.cell? ⟨w.heap.size,2,none⟩=some (.slice b2 n2 c2)/\w'.cell? ⟨w.heap.size,3,none⟩=some (.slice b3 n3 c3)/\w'.cell? ⟨w.heap.size,4,none⟩=some (.slice b4 n4 c4)/\w'.cell? ⟨w.heap.size,5,none⟩=some (.slice b5 ay.length c5)/\w'.cell? ⟨w.heap.size,6,none⟩=some (.slice b6 n6 c6)) (go_keep) (first|(go_at_call 87;refine(uh Ap).mono ?_;rintro e w8 ⟨rfl,hBm,m0,m1,m2,m3,m4,m5,m6⟩))
     have Vh:=ak (uh HC2 w8 hBm);clear HC2 Ap;go_wp2_with fail
     go_region_held3 (fun w'=>w'.cell? ⟨w.heap.size,0,none⟩=some (.string nm)/\w'.cell? ⟨w.heap.size,1,none⟩=some (.slice b1 n1 c1)/\w'.cell? ⟨w.heap.size,2,none⟩=some (.slice b2 n2 c2)/\w'.cell? ⟨w.heap.size,3,none⟩=some (.slice b3 n3 c3)/\w'.cell? ⟨w.heap.size,4,none⟩=some (.slice b4 n4 c4)/\w'.cell? ⟨w.heap.size,5,none⟩=some (.slice b5 ay.length c5)/\w'.cell? ⟨w.heap.size,6,none⟩=some (.slice b6 n6 c6)) (go_keep) (first|(go_at_call 87;refine(uh Vh).mono ?_;rintro e w7 ⟨rfl,hBl,l0,l1,l2,l3,l4,l5,l6⟩))
     have Ae:=ak hBl;go_wp2
     go_roundg (body.length-(en+1))
     case measure=>have:=uh HG;omega
     case rel=>exact⟨en+1,Ru,sum+(1+v2),by omega,rfl,by go_num,rfl,by omega,by omega,by omega,uh HF,uh Oc,uh Ae⟩
   ·have e5:decide (v1<v2)=false:=iy as9
    have e6:maxS v1 v2=v1:=by unfold maxS;rw[bf as9]
    rw[e6] at HS;clear e6
    by_cases hgt:400000<sum+(1+v1)
    ·have f9:decide (400000<sum+(1+v1))=true:=jf hgt
     have HF:Hid (R=O5 (sumF f) ps Ru (en+1) 400001):=(uh HS).trans (by unfold Ll;rw[gy hgt]);clear HS hgt;go_wp2_with fail;refine(uh Ns).mono ?_;rintro e w9 ⟨rfl,h9⟩;obtain rfl:=h9.symm;clear h9;clear Ns HST Wv HSN HX HR HNE HGB HX0 r0 y4;go_wp2_with fail
     go_region_held3 (fun w'=>w'.cell? ⟨w.heap.size,0,none⟩=some (.string nm)/\w'.cell? ⟨w.heap.size,1,none⟩=some (.slice b1 n1 c1)/\w'.cell? ⟨w.heap.size,2,none⟩=some (.slice b2 n2 c2)/\w'.cell? ⟨w.heap.size,3,none⟩=some (.slice b3 n3 c3)/\w'.cell? ⟨w.heap.size,4,none⟩=some (.slice b4 n4 c4)/\w'.cell? ⟨w.heap.size,5,none⟩=some (.slice b5 ay.length c5)/\w'.cell? ⟨w.heap.size,6,none⟩=some (.slice b6 n6 c6)) (go_keep) (first|(go_at_call 87;refine(uh Ap).mono ?_;rintro e w8 ⟨rfl,hBm,m0,m1,m2,m3,m4,m5,m6⟩))
     have Vh:=ak (uh HC2 w8 hBm);clear HC2 Ap;go_wp2_with fail
     go_region_held3 (fun w'=>w'.cell? ⟨w.heap.size,0,none⟩=some (.string nm)/\w'.cell? ⟨w.heap.size,1,none⟩=some (.slice b1 n1 c1)/\w'.cell? ⟨w.heap.size,2,none⟩=some (.slice b2 n2 c2)/\w'.cell? ⟨w.heap.size,3,none⟩=some (.slice b3 n3 c3)/\w'.cell? ⟨w.heap.size,4,none⟩=some (.slice b4 n4 c4)/\w'.cell? ⟨w.heap.size,5,none⟩=some (.slice b5 ay.length c5)/\w'.cell? ⟨w.heap.size,6,none⟩=some (.slice b6 n6 c6)) (go_keep) (first|(go_at_call 87;refine(uh Vh).mono ?_;rintro e w7 ⟨rfl,hBl,l0,l1,l2,l3,l4,l5,l6⟩))
     have Ae:=ak hBl;go_wp2
     go_roundg (body.length-(en+1))
     case measure=>have:=uh HG;omega
     case rel=>exact⟨en+1,Ru,400001,by omega,rfl,by go_num,rfl,by omega,by omega,by omega,uh HF,uh Oc,uh Ae⟩
    ·have f9:decide (400000<sum+(1+v1))=false:=iy hgt
     have HF:Hid (R=O5 (sumF f) ps Ru (en+1) (sum+(1+v1))):=(uh HS).trans (by unfold Ll;rw[bf hgt]);clear HS;go_wp2_with fail;refine(uh Ns).mono ?_;rintro e w9 ⟨rfl,h9⟩;obtain rfl:=h9.symm;clear h9;clear Ns HST Wv HSN HX HR HNE HGB HX0 r0 y4;go_wp2_with fail
     go_region_held3 (fun w'=>w'.cell? ⟨w.heap.size,0,none⟩=some (.string nm)/\w'.cell? ⟨w.heap.size,1,none⟩=some (.slice b1 n1 c1)/\w'.cell? ⟨w.heap.size,2,none⟩=some (.slice b2 n2 c2)/\w'.cell? ⟨w.heap.size,3,none⟩=some (.slice b3 n3 c3)/\w'.cell? ⟨w.heap.size,4,none⟩=some (.slice b4 n4 c4)/\w'.cell? ⟨w.heap.size,5,none⟩=some (.slice b5 ay.length c5)/\w'.cell? ⟨w.heap.size,6,none⟩=some (.slice b6 n6 c6)) (go_keep) (first|(go_at_call 87;refine(uh Ap).mono ?_;rintro e w8 ⟨rfl,hBm,m0,m1,m2,m3,m4,m5,m6⟩))
     have Vh:=ak (uh HC2 w8 hBm);clear HC2 Ap;go_wp2_with fail
     go_region_held3 (fun w'=>w'.cell? ⟨w.heap.size,0,none⟩=some (.string nm)/\w'.cell? ⟨w.heap.size,1,none⟩=some (.slice b1 n1 c1)/\w'.cell? ⟨w.heap.size,2,none⟩=some (.slice b2 n2 c2)/\w'.cell? ⟨w.heap.size,3,none⟩=some (.slice b3 n3 c3)/\w'.cell? ⟨w.heap.size,4,none⟩=some (.slice b4 n4 c4)/\w'.cell? ⟨w.heap.size,5,none⟩=some (.slice b5 ay.length c5)/\w'.cell? ⟨w.heap.size,6,none⟩=some (.slice b6 n6 c6)) (go_keep) (first|(go_at_call 87;refine(uh Vh).mono ?_;rintro e w7 ⟨rfl,hBl,l0,l1,l2,l3,l4,l5,l6⟩))
     have Ae:=ak hBl;go_wp2
     go_roundg (body.length-(en+1))
     case measure=>have:=uh HG;omega
     case rel=>exact⟨en+1,Ru,sum+(1+v1),by omega,rfl,by go_num,rfl,by omega,by omega,by omega,uh HF,uh Oc,uh Ae⟩
end Go.Proofs.YtfeejeflmcapoaaGreatDoor
