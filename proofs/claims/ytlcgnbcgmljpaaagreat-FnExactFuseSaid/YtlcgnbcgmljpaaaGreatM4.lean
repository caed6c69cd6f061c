import Derived.Test.YtlcgnbcgmljpaaaGreatM2
namespace Go.Proofs.YtlcgnbcgmljpaaaGreat
open Go.RowKit
set_option linter.unusedSimpArgs false
set_option linter.unusedVariables false
def dn (body:List dh):List Int:=body.map (·.kind)
theorem aub (ks:List Int) (j:Nat) (hj:j<ks.length) (d o:Int):Cc (ks.drop j) j d o=(if ks[j]=4 then Cc (ks.drop (j+1)) (j+1) (d+1) o
  else if ks[j]=5 then (if d=1 then (if 0<=o then (-1,-1) else Cc (ks.drop (j+1)) (j+1) d (j:Int)) else Cc (ks.drop (j+1)) (j+1) d o)
  else if ks[j]=6 then (if d-1=0 then (o,(j:Int)) else Cc (ks.drop (j+1)) (j+1) (d-1) o)
  else Cc (ks.drop (j+1)) (j+1) d o):=by
 rw[List.drop_eq_getElem_cons hj]
 rfl
theorem Pe (body:List dh) (j:Nat) (hj:j<body.length):(dn body)[j]'(by unfold dn;simpa using hj)=body[j].kind:=by
 unfold dn
 simp
set_option maxHeartbeats 1000000 in
theorem Qu (body:List dh) (v:Value) (i:Nat) (w:World) (hv:bf 6 104 Ec 0 w v body) (hi:i<=body.length) :
  Calls Tryz.prog 27 #[v,.int .i64 (i:Int)] w fun e w'=>e=.returned (.tuple #[.int .i64 (je (dn body) i).1,.int .i64 (je (dn body) i).2])∧w'=w:=by
 obtain⟨a,cap,rfl,_,hn,hx⟩:=hv
 unfold Len at hn
 have HX:=hide hx
 have hkl:(dn body).length=body.length:=by unfold dn;simp
 have HR:Hid (je (dn body) i=Cc ((dn body).drop i) i 0 (-1)):=rfl
 generalize je (dn body) i=R at *
 have HST:=hide (fun j (hj:j<body.length) d o=>by
  have h:=aub (dn body) j (by rw[hkl];exact hj) d o
  rw[Pe body j hj] at h
  exact h)
 have a4m:Hid (∀d o,Cc ((dn body).drop body.length) body.length d o=(-1,-1)):=fun d o=>by
  rw[List.drop_of_length_le (by rw[hkl];exact Nat.le_refl _)]
  rfl
 generalize dn body=ks at *
 clear hx hkl
 go_enter Tryz.func27,Tryz.ntmps27
 go_wp2
 go_loopg [6,7,8] (body.length-i) (fun g dv ov jv wr=>∃(j:Nat) (d o:Int),j<=body.length∧g=body.length-j∧jv=.int .i64 j∧dv=.int .i64 d∧ov=.int .i64 o ∧ -(j:Int)<=d∧d<=j ∧ -1<=o∧o<=j∧R=Cc (ks.drop j) j d o∧wr=w)
 case atStart=>exact⟨i,0,-1,hi,by omega,rfl,rfl,rfl,by omega,by omega,by omega,by omega,uh HR,rfl⟩
 case round =>
  obtain⟨j,d,o,hj,hg,rfl,rfl,rfl,hd1,hd2,ho1,ho2,hR,hw9⟩:=hrel
  obtain rfl:=hw9.symm
  have HG:=hide hg
  have HRR:=hide hR
  clear hg hR
  by_cases hlt:j<body.length
  ·obtain⟨b,o5,cs,ql,_,hb,hcs,hc,⟨q1,q2,q3,rfl,_⟩⟩:=uh HX j hlt
   subst ql
   have r0:=hc 0 (by simp)
   simp only[Nat.add_zero,List.getElem_cons_zero] at r0
   have HS:=hide ((uh HRR).trans (uh HST j hlt d o))
   have hlt':(j:Int)<(body.length:Int):=by omega
   clear hc hcs
   generalize body[j].kind=kd at *
   by_cases h4:kd=4
   ·have y4:(kd == 4)=true:=by simp[h4]
    have hS:=uh HS
    rw[if_pos h4] at hS
    have HS2:=hide hS
    clear hS HS h4
    go_wp2
    go_roundg (body.length-(j+1))
    case measure=>have:=uh HG;omega
    case rel=>exact⟨j+1,d+1,o,by omega,rfl,by go_num,rfl,rfl,by omega,by omega,by omega,by omega,uh HS2,rfl⟩
   have y4:(kd == 4)=false:=by simp[h4]
   have hS:=uh HS
   rw[if_neg h4] at hS
   clear HS h4
   by_cases h5:kd=5
   ·have y5:(kd == 5)=true:=by simp[h5]
    rw[if_pos h5] at hS
    clear h5
    by_cases h1:d=1
    ·have e1:(d == 1)=true:=by simp[h1]
     rw[if_pos h1] at hS
     by_cases h0:0<=o
     ·have e2:decide (0<=o)=true:=decide_eq_true h0
      rw[if_pos h0] at hS
      have HS2:=hide hS
      clear hS h1
      go_wp2
      go_ret2
      exact⟨afw (uh HS2),rfl⟩
     ·have e2:decide (0<=o)=false:=decide_eq_false h0
      rw[if_neg h0] at hS
      have HS2:=hide hS
      clear hS h1
      go_wp2
      go_roundg (body.length-(j+1))
      case measure=>have:=uh HG;omega
      case rel=>exact⟨j+1,d,(j:Int),by omega,rfl,by go_num,rfl,rfl,by omega,by omega,by omega,by omega,uh HS2,rfl⟩
    ·have e1:(d == 1)=false:=by simp[h1]
     rw[if_neg h1] at hS
     have HS2:=hide hS
     clear hS h1
     go_wp2
     go_roundg (body.length-(j+1))
     case measure=>have:=uh HG;omega
     case rel=>exact⟨j+1,d,o,by omega,rfl,by go_num,rfl,rfl,by omega,by omega,by omega,by omega,uh HS2,rfl⟩
   have y5:(kd == 5)=false:=by simp[h5]
   rw[if_neg h5] at hS
   clear h5
   by_cases h6:kd=6
   ·have y6:(kd == 6)=true:=by simp[h6]
    rw[if_pos h6] at hS
    clear h6
    by_cases h1:d-1=0
    ·have e1:(d-1 == 0)=true:=by simp[h1]
     rw[if_pos h1] at hS
     have HS2:=hide hS
     clear hS h1
     go_wp2
     go_ret2
     exact⟨afw (uh HS2),rfl⟩
    ·have e1:(d-1 == 0)=false:=by simp[h1]
     rw[if_neg h1] at hS
     have HS2:=hide hS
     clear hS h1
     go_wp2
     go_roundg (body.length-(j+1))
     case measure=>have:=uh HG;omega
     case rel=>exact⟨j+1,d-1,o,by omega,rfl,by go_num,rfl,rfl,by omega,by omega,by omega,by omega,uh HS2,rfl⟩
   ·have y6:(kd == 6)=false:=by simp[h6]
    rw[if_neg h6] at hS
    have HS2:=hide hS
    clear hS h6
    go_wp2
    go_roundg (body.length-(j+1))
    case measure=>have:=uh HG;omega
    case rel=>exact⟨j+1,d,o,by omega,rfl,by go_num,rfl,rfl,by omega,by omega,by omega,by omega,uh HS2,rfl⟩
  ·have e:j=body.length:=by omega
   subst e
   have HE:=hide ((uh HRR).trans (uh a4m d o))
   go_wp2
   go_ret2
   exact⟨afw (uh HE),rfl⟩
def ug {α:Type} (ks:List α) (p q:Nat):List α:=(ks.drop p).take (q-p)
theorem Gh {α:Type} (ks:List α) (p q:Nat) (h1:p<=q) (h2:q<=ks.length):(ug ks p q).length=q-p:=by
 unfold ug
 rw[List.length_take,List.length_drop]
 omega
theorem Z9 {α β:Type} (f:α->β) (ks:List α) (p q:Nat):(ug ks p q).map f=ug (ks.map f) p q:=by
 unfold ug
 rw[List.map_take,List.map_drop]
theorem bf.sub {α:Type} {sz jh:Nat} {R:Nat->World->List Value->α->Prop} {w:World} {b o n c:Nat} {xs:List α} (h:bf sz jh R 0 w (.slice (some ⟨b,o,none⟩) n c) xs) (p q:Nat) (hp:p<=q) (hq:q<=xs.length) :
  bf sz jh R 0 w (.slice (some ⟨b,o+p*sz,none⟩) (q-p) (c-p)) (ug xs p q):=by
 obtain⟨a',c',hv,⟨h1,h2⟩,h3,hx⟩:=h
 simp only[Value.slice.injEq] at hv
 obtain⟨rfl,_,rfl⟩:=hv
 have hl:=Gh xs p q hp hq
 have hm:(q-p)*jh<=xs.length*jh:=Nat.mul_le_mul_right _ (by omega)
 refine⟨_,c-p,by rw[hl],⟨by rw[hl];unfold Len at *;omega,by omega⟩,by rw[hl];unfold Len at *;omega,fun i hi=>?_⟩
 obtain⟨b',o',cs,r1,r2,r3,r4,r5,r6⟩:=hx (p+i) (by omega)
 simp only[Option.some.injEq,Addr.mk.injEq] at r1
 obtain⟨rfl,rfl,_⟩:=r1
 refine⟨b,o+p*sz,cs,rfl,r2,r3,r4,fun j hj=>?_,?_⟩
 ·rw[←r5 j hj]
  congr 2
  rw[Nat.add_mul]
  omega
 ·have e:(ug xs p q)[i]=xs[p+i]:=by simp[ug]
  rw[e]
  exact r6
def Iw (rec:List Int->Int->Bool) (ks:List Int) (depth:Int):Nat->Nat->Bool
 | 0,_=>true
 | f+1,i=>match ks[i]? with
  | none=>true
  | some kd =>
   if kd=5∨kd=6 then false
   else if kd=4 then
    (if (je ks i).1<0∨(je ks i).2<0 then false
    else if ((i:Int)+1<(je ks i).1∨(je ks i).1+1<(je ks i).2)∧20<depth+1 then false
    else if rec (ug ks (i+1) (je ks i).1.toNat) (depth+1)=false then false
    else if rec (ug ks ((je ks i).1.toNat+1) (je ks i).2.toNat) (depth+1)=false then false
    else Iw rec ks depth f ((je ks i).2.toNat+1))
   else Iw rec ks depth f (i+1)
def zi:Nat->List Int->Int->Bool
 | 0,_,_=>true
 | f+1,ks,d=>Iw (zi f) ks d (ks.length+1) 0
theorem Qv (rec:List Int->Int->Bool) (ks:List Int) (depth:Int) (f i:Nat) (hi:i<ks.length):Iw rec ks depth (f+1) i=(if ks[i]=5∨ks[i]=6 then false
   else if ks[i]=4 then
    (if (je ks i).1<0∨(je ks i).2<0 then false
    else if ((i:Int)+1<(je ks i).1∨(je ks i).1+1<(je ks i).2)∧20<depth+1 then false
    else if rec (ug ks (i+1) (je ks i).1.toNat) (depth+1)=false then false
    else if rec (ug ks ((je ks i).1.toNat+1) (je ks i).2.toNat) (depth+1)=false then false
    else Iw rec ks depth f ((je ks i).2.toNat+1))
   else Iw rec ks depth f (i+1)):=by
 rw[Iw,List.getElem?_eq_getElem hi]
theorem agv (rec:List Int->Int->Bool) (ks:List Int) (depth:Int) (f:Nat):Iw rec ks depth f ks.length=true:=by
 cases f with
 | zero=>rfl
 | succ f =>
  rw[Iw,List.getElem?_eq_none (Nat.le_refl _)]
set_option maxRecDepth 20000 in
set_option maxHeartbeats 4000000 in
theorem aky:∀(f:Nat) (body:List dh) (v:Value) (depth:Int) (w:World),bf 6 104 Ec 0 w v body->body.length<f->0<=depth->depth+body.length<=281474976710656 ->
  Calls Tryz.prog 51 #[v,.int .i64 depth] w fun e w'=>e=.returned (.bool (zi f (dn body) depth))∧w'=w:=by
 intro f
 induction f with
 | zero=>intro body v depth w _ h;omega
 | succ f ih =>
  intro body v depth w hv hlf hd0 hd1
  have HPT:=hide (fun i (hi:i<=body.length)=>Qu body v i w hv hi)
  have HV:=hide hv
  obtain⟨a,cap,rfl,⟨_,hcap⟩,hn,hx⟩:=hv
  unfold Len at hn
  have HX:=hide hx
  have hkl:(dn body).length=body.length:=by unfold dn;simp
  have HR:Hid (zi (f+1) (dn body) depth=Iw (zi f) (dn body) depth (body.length+1) 0):=by
   show zi (f+1) (dn body) depth=_
   rw[zi,hkl]
  have HK:=hide (fun j (hj:j<body.length)=>Pe body j hj)
  have HST:=hide (fun g i (hi:i<body.length)=>by
   have h:=Qv (zi f) (dn body) depth g i (by rw[hkl];exact hi)
   rw[uh HK i hi] at h
   exact h)
  have HEN:Hid (∀g,Iw (zi f) (dn body) depth g body.length=true):=fun g=>by
   have:=agv (zi f) (dn body) depth g
   rw[hkl] at this
   exact this
  have HPB:=hide (fun i (hi:i<body.length) (h4:body[i].kind=4) h1 h2=>by
   have h:=adk (dn body) i (by rw[hkl];exact hi) (by rw[uh HK i hi];exact h4) h1 h2
   rw[hkl] at h
   exact h)
  have HIH:Hid (∀p q b o,a=some ⟨b,o,none⟩->p<=q->q<=body.length->0<p->Calls Tryz.prog 51 #[.slice (some ⟨b,o+p*6,none⟩) (q-p) (cap-p),.int .i64 (depth+1)] w fun e w'=>e=.returned (.bool (zi f (ug (dn body) p q) (depth+1)))∧w'=w):=fun p q b o ha hp hq h0=>by
   subst ha
   have hs:=(uh HV).sub p q hp hq
   have hl:=Gh body p q hp hq
   have h:=ih (ug body p q) _ (depth+1) w hs (by omega) (by omega) (by omega)
   have e:dn (ug body p q)=ug (dn body) p q:=Z9 _ _ _ _
   rw[e] at h
   exact h
  clear hx hkl ih HV HK
  generalize zi (f+1) (dn body) depth=R at *
  generalize dn body=ks at *
  go_enter Tryz.func51,Tryz.ntmps51
  go_wp2
  go_loopg [5] (body.length) (fun g iv wr=>∃(i fu:Nat),i<=body.length∧g=body.length-i∧iv=.int .i64 i∧body.length<fu+i∧R=Iw (zi f) ks depth fu i∧wr=w)
  case atStart=>exact⟨0,body.length+1,Nat.zero_le _,by omega,rfl,by omega,uh HR,rfl⟩
  case round =>
   obtain⟨i,fu,hi,hg,rfl,hfu,hR,hw9⟩:=hrel
   obtain rfl:=hw9.symm
   have HG:=hide hg
   have HRR:=hide hR
   clear hg hR
   by_cases hlt:i<body.length
   ·obtain⟨b,o,cs,ql,_,hb,hcs,hc,⟨q1,q2,q3,rfl,_⟩⟩:=uh HX i hlt
    have HAB:=hide ql
    have r0:=hc 0 (by simp)
    simp only[Nat.add_zero,List.getElem_cons_zero] at r0
    obtain⟨Iq,rfl⟩:∃Iq,fu=Iq+1:=⟨fu-1,by omega⟩
    have HS:=hide ((uh HRR).trans (uh HST Iq i hlt))
    have abp:=hide (uh HPB i hlt)
    have Eo:=hide (uh HPT i hi)
    have HI2:=hide (fun p q=>uh HIH p q b o (uh HAB))
    subst ql
    have hlt':(i:Int)<(body.length:Int):=by omega
    clear hc hcs HRR
    generalize body[i].kind=kd at *
    by_cases Qw:kd=5∨kd=6
    ·have hS:=uh HS
     rw[if_pos Qw] at hS
     have HF:=hide hS
     clear hS HS abp Eo HI2
     rcases Qw with rfl|rfl
     all_goals
      go_wp2
      go_ret
      exact⟨by rw[uh HF];rfl,rfl⟩
    have y5:(kd == 5)=false:=by rw[beq_eq_false_iff_ne];omega
    have y6:(kd == 6)=false:=by rw[beq_eq_false_iff_ne];omega
    have hS:=uh HS
    rw[if_neg Qw] at hS
    by_cases h4:kd=4
    case neg =>
     rw[if_neg h4] at hS
     have HF:=hide hS
     have y4:(kd == 4)=false:=by rw[beq_eq_false_iff_ne];omega
     clear hS HS Qw h4 abp Eo HI2
     go_wp2
     go_roundg (body.length-(i+1))
     case measure=>have:=uh HG;omega
     case rel=>exact⟨i+1,Iq,by omega,rfl,by go_num,by omega,uh HF,rfl⟩
    rw[if_pos h4] at hS
    have y4:(kd == 4)=true:=by simp[h4]
    have abq:=hide (uh abp h4)
    have Ku:=hide hS
    clear hS HS abp Qw h4
    generalize je ks i=pp at *
    obtain⟨po,pe⟩:=pp
    simp only at Ku abq Eo
    by_cases hneg:po<0∨pe<0
    ·have hS:=uh Ku
     rw[if_pos hneg] at hS
     have HF:=hide hS
     clear hS Ku abq HI2
     by_cases hp0:po<0
     ·have e1:decide (po<0)=true:=decide_eq_true hp0
      go_wp2_with fail
      refine(uh Eo).mono ?_
      rintro e w9 ⟨rfl,h9⟩
      obtain rfl:=h9.symm
      go_wp2
      go_ret
      exact⟨by rw[uh HF];rfl,rfl⟩
     ·have e1:decide (po<0)=false:=decide_eq_false hp0
      have e2:decide (pe<0)=true:=decide_eq_true (by omega)
      go_wp2_with fail
      refine(uh Eo).mono ?_
      rintro e w9 ⟨rfl,h9⟩
      obtain rfl:=h9.symm
      go_wp2
      go_ret
      exact⟨by rw[uh HF];rfl,rfl⟩
    have hpb:=uh abq (by omega) (by omega)
    obtain⟨pn,rfl⟩:=Int.eq_ofNat_of_zero_le (show 0<=po by omega)
    obtain⟨en,rfl⟩:=Int.eq_ofNat_of_zero_le (show 0<=pe by omega)
    have hS:=uh Ku
    rw[if_neg hneg] at hS
    simp only[Int.toNat_natCast] at hS
    have e1:decide ((pn:Int)<0)=false:=by rw[decide_eq_false_iff_not];omega
    have e2:decide ((en:Int)<0)=false:=by rw[decide_eq_false_iff_not];omega
    have qg:=hide (uh HI2 (i+1) pn (by omega) (by omega) (by omega))
    have HC2:=hide (uh HI2 (pn+1) en (by omega) (by omega) (by omega))
    have g1:(0:Int)<=(i:Int)+1:=by omega
    have g2:(i:Int)+1<=(pn:Int):=by omega
    have g3:(pn:Int)<=(cap:Int):=by omega
    have g4:(0:Int)<=(pn:Int)+1:=by omega
    have g5:(pn:Int)+1<=(en:Int):=by omega
    have g6:(en:Int)<=(cap:Int):=by omega
    have hnb:i+1<=pn∧pn+1<=en∧en<body.length:=by omega
    clear abq HI2 hneg Ku hpb
    generalize zi f (ug ks (i+1) pn) (depth+1)=v1 at *
    generalize zi f (ug ks (pn+1) en) (depth+1)=v2 at *
    by_cases hin1:(i:Int)+1<(pn:Int)
    ·have i1:decide ((i:Int)+1<(pn:Int))=true:=decide_eq_true hin1
     by_cases hdd:20<depth+1
     ·have f1:decide (20<depth+1)=true:=decide_eq_true hdd
      rw[if_pos ⟨Or.inl hin1,hdd⟩] at hS
      have HF:=hide hS
      clear hS qg HC2
      go_wp2_with fail
      refine(uh Eo).mono ?_
      rintro e w9 ⟨rfl,h9⟩
      obtain rfl:=h9.symm
      go_wp2
      go_ret
      exact⟨by rw[uh HF];rfl,rfl⟩
     ·have f1:decide (20<depth+1)=false:=decide_eq_false hdd
      rw[if_neg (fun h=>hdd h.2)] at hS
      cases v1
      ·rw[if_pos rfl] at hS
       have HF:=hide hS
       clear hS HC2
       go_wp2_with fail
       refine(uh Eo).mono ?_
       rintro e w9 ⟨rfl,h9⟩
       obtain rfl:=h9.symm
       go_wp2_with fail
       refine(uh qg).mono ?_
       rintro e w8 ⟨rfl,h8⟩
       obtain rfl:=h8.symm
       go_wp2
       go_ret
       exact⟨by rw[uh HF];rfl,rfl⟩
      rw[if_neg (by simp)] at hS
      cases v2
      ·rw[if_pos rfl] at hS
       have HF:=hide hS
       clear hS
       go_wp2_with fail
       refine(uh Eo).mono ?_
       rintro e w9 ⟨rfl,h9⟩
       obtain rfl:=h9.symm
       go_wp2_with fail
       refine(uh qg).mono ?_
       rintro e w8 ⟨rfl,h8⟩
       obtain rfl:=h8.symm
       go_wp2_with fail
       refine(uh HC2).mono ?_
       rintro e w7 ⟨rfl,h7⟩
       obtain rfl:=h7.symm
       go_wp2
       go_ret
       exact⟨by rw[uh HF];rfl,rfl⟩
      ·rw[if_neg (by simp)] at hS
       have HF:=hide hS
       clear hS
       go_wp2_with fail
       refine(uh Eo).mono ?_
       rintro e w9 ⟨rfl,h9⟩
       obtain rfl:=h9.symm
       go_wp2_with fail
       refine(uh qg).mono ?_
       rintro e w8 ⟨rfl,h8⟩
       obtain rfl:=h8.symm
       go_wp2_with fail
       refine(uh HC2).mono ?_
       rintro e w7 ⟨rfl,h7⟩
       obtain rfl:=h7.symm
       go_wp2
       go_roundg (body.length-(en+1))
       case measure=>have:=uh HG;omega
       case rel=>exact⟨en+1,Iq,by omega,rfl,by go_num,by omega,uh HF,rfl⟩
    have i1:decide ((i:Int)+1<(pn:Int))=false:=decide_eq_false hin1
    by_cases hin2:(pn:Int)+1<(en:Int)
    ·have i2:decide ((pn:Int)+1<(en:Int))=true:=decide_eq_true hin2
     by_cases hdd:20<depth+1
     ·have f1:decide (20<depth+1)=true:=decide_eq_true hdd
      rw[if_pos ⟨Or.inr hin2,hdd⟩] at hS
      have HF:=hide hS
      clear hS qg HC2
      go_wp2_with fail
      refine(uh Eo).mono ?_
      rintro e w9 ⟨rfl,h9⟩
      obtain rfl:=h9.symm
      go_wp2
      go_ret
      exact⟨by rw[uh HF];rfl,rfl⟩
     ·have f1:decide (20<depth+1)=false:=decide_eq_false hdd
      rw[if_neg (fun h=>hdd h.2)] at hS
      cases v1
      ·rw[if_pos rfl] at hS
       have HF:=hide hS
       clear hS HC2
       go_wp2_with fail
       refine(uh Eo).mono ?_
       rintro e w9 ⟨rfl,h9⟩
       obtain rfl:=h9.symm
       go_wp2_with fail
       refine(uh qg).mono ?_
       rintro e w8 ⟨rfl,h8⟩
       obtain rfl:=h8.symm
       go_wp2
       go_ret
       exact⟨by rw[uh HF];rfl,rfl⟩
      rw[if_neg (by simp)] at hS
      cases v2
      ·rw[if_pos rfl] at hS
       have HF:=hide hS
       clear hS
       go_wp2_with fail
       refine(uh Eo).mono ?_
       rintro e w9 ⟨rfl,h9⟩
       obtain rfl:=h9.symm
       go_wp2_with fail
       refine(uh qg).mono ?_
       rintro e w8 ⟨rfl,h8⟩
       obtain rfl:=h8.symm
       go_wp2_with fail
       refine(uh HC2).mono ?_
       rintro e w7 ⟨rfl,h7⟩
       obtain rfl:=h7.symm
       go_wp2
       go_ret
       exact⟨by rw[uh HF];rfl,rfl⟩
      ·rw[if_neg (by simp)] at hS
       have HF:=hide hS
       clear hS
       go_wp2_with fail
       refine(uh Eo).mono ?_
       rintro e w9 ⟨rfl,h9⟩
       obtain rfl:=h9.symm
       go_wp2_with fail
       refine(uh qg).mono ?_
       rintro e w8 ⟨rfl,h8⟩
       obtain rfl:=h8.symm
       go_wp2_with fail
       refine(uh HC2).mono ?_
       rintro e w7 ⟨rfl,h7⟩
       obtain rfl:=h7.symm
       go_wp2
       go_roundg (body.length-(en+1))
       case measure=>have:=uh HG;omega
       case rel=>exact⟨en+1,Iq,by omega,rfl,by go_num,by omega,uh HF,rfl⟩
    ·have i2:decide ((pn:Int)+1<(en:Int))=false:=decide_eq_false hin2
     rw[if_neg (by rintro⟨h|h,_⟩;exact hin1 h;exact hin2 h)] at hS
     cases v1
     ·rw[if_pos rfl] at hS
      have HF:=hide hS
      clear hS HC2
      go_wp2_with fail
      refine(uh Eo).mono ?_
      rintro e w9 ⟨rfl,h9⟩
      obtain rfl:=h9.symm
      go_wp2_with fail
      refine(uh qg).mono ?_
      rintro e w8 ⟨rfl,h8⟩
      obtain rfl:=h8.symm
      go_wp2
      go_ret
      exact⟨by rw[uh HF];rfl,rfl⟩
     rw[if_neg (by simp)] at hS
     cases v2
     ·rw[if_pos rfl] at hS
      have HF:=hide hS
      clear hS
      go_wp2_with fail
      refine(uh Eo).mono ?_
      rintro e w9 ⟨rfl,h9⟩
      obtain rfl:=h9.symm
      go_wp2_with fail
      refine(uh qg).mono ?_
      rintro e w8 ⟨rfl,h8⟩
      obtain rfl:=h8.symm
      go_wp2_with fail
      refine(uh HC2).mono ?_
      rintro e w7 ⟨rfl,h7⟩
      obtain rfl:=h7.symm
      go_wp2
      go_ret
      exact⟨by rw[uh HF];rfl,rfl⟩
     ·rw[if_neg (by simp)] at hS
      have HF:=hide hS
      clear hS
      go_wp2_with fail
      refine(uh Eo).mono ?_
      rintro e w9 ⟨rfl,h9⟩
      obtain rfl:=h9.symm
      go_wp2_with fail
      refine(uh qg).mono ?_
      rintro e w8 ⟨rfl,h8⟩
      obtain rfl:=h8.symm
      go_wp2_with fail
      refine(uh HC2).mono ?_
      rintro e w7 ⟨rfl,h7⟩
      obtain rfl:=h7.symm
      go_wp2
      go_roundg (body.length-(en+1))
      case measure=>have:=uh HG;omega
      case rel=>exact⟨en+1,Iq,by omega,rfl,by go_num,by omega,uh HF,rfl⟩
   ·have e:i=body.length:=by omega
    subst e
    have HE:=hide ((uh HRR).trans (uh HEN fu))
    go_wp2
    go_ret
    exact⟨by rw[uh HE];rfl,rfl⟩
end Go.Proofs.YtlcgnbcgmljpaaaGreat
