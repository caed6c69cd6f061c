import Derived.Test.YtlcgnbcgmljpaaaGreatM9
namespace Go.Proofs.YtlcgnbcgmljpaaaGreat
open Go.RowKit
set_option linter.unusedSimpArgs false
set_option linter.unusedVariables false
def Dn (n:Int):Int:=if 400000<n then 400001 else n
def maxS (a b:Int):Int:=if a<b then b else a
def costs (insts known:List Int) (body:List dh):List (Int × Int):=body.map fun s=>(s.kind,known.getD (insts.getD s.at_.toNat 0).toNat 0)
def Gi (rec:List (Int × Int)->Int) (ps:List (Int × Int)):Nat->Nat->Int->Int
 | 0,_,sum=>sum
 | f+1,i,sum=>match ps[i]? with
  | none=>sum
  | some p =>
   if p.1=4 then Gi rec ps f ((je (ps.map Prod.fst) i).2.toNat+1) (Dn (sum+(1+maxS (rec (ug ps (i+1) (je (ps.map Prod.fst) i).1.toNat)) (rec (ug ps ((je (ps.map Prod.fst) i).1.toNat+1) (je (ps.map Prod.fst) i).2.toNat)))))
   else if p.1=3 then Gi rec ps f (i+1) (Dn (sum+(1+p.2)))
   else Gi rec ps f (i+1) (Dn (sum+1))
def sumF:Nat->List (Int × Int)->Int
 | 0,_=>0
 | f+1,ps=>Gi (sumF f) ps (ps.length+1) 0 0
theorem Ho (n:Int) (h:0<=n):0<=Dn n∧Dn n<=400001:=by
 unfold Dn
 split<;>omega
theorem aci (a b B:Int) (h1:0<=a∧a<=B) (h2:0<=b∧b<=B):0<=maxS a b∧maxS a b<=B:=by
 unfold maxS
 split<;>omega
theorem aw5 (rec:List (Int × Int)->Int) (ps:List (Int × Int)) (hp:∀p,p∈ps->0<=p.2∧p.2<=400001) (hr:∀p q,0<=rec (ug ps p q)∧rec (ug ps p q)<=400001):∀(f i:Nat) (sum:Int),0<=sum->sum<=400001->0<=Gi rec ps f i sum∧Gi rec ps f i sum<=400001:=by
 intro f
 induction f with
 | zero=>intro i sum h1 h2;exact⟨h1,h2⟩
 | succ f ih =>
  intro i sum h1 h2
  rw[Gi]
  split
  ·exact⟨h1,h2⟩
  ·rename_i p he
   have hpp:=hp p (List.mem_of_getElem? he)
   split
   ·have hm:=aci _ _ _ (hr (i+1) (je (ps.map Prod.fst) i).1.toNat) (hr ((je (ps.map Prod.fst) i).1.toNat+1) (je (ps.map Prod.fst) i).2.toNat)
    have hc:=Ho (sum+(1+maxS (rec (ug ps (i+1) (je (ps.map Prod.fst) i).1.toNat)) (rec (ug ps ((je (ps.map Prod.fst) i).1.toNat+1) (je (ps.map Prod.fst) i).2.toNat)))) (by omega)
    exact ih _ _ hc.1 hc.2
   ·split
    ·have hc:=Ho (sum+(1+p.2)) (by omega)
     exact ih _ _ hc.1 hc.2
    ·have hc:=Ho (sum+1) (by omega)
     exact ih _ _ hc.1 hc.2
theorem afs {α:Type} {ks:List α} {p q:Nat} {x:α} (h:x∈ug ks p q):x∈ks:=List.mem_of_mem_drop (List.mem_of_mem_take h)
theorem aft:∀(f:Nat) (ps:List (Int × Int)),(∀p,p∈ps->0<=p.2∧p.2<=400001)->0<=sumF f ps∧sumF f ps<=400001:=by
 intro f
 induction f with
 | zero=>intro ps _;exact⟨Int.le_refl _,by simp[sumF]⟩
 | succ f ih =>
  intro ps h
  exact aw5 (sumF f) ps h (fun p q=>ih _ (fun x hx=>h x (afs hx))) _ _ _ (Int.le_refl _) (by omega)
theorem aqe (insts known:List Int) (body:List dh):(costs insts known body).map Prod.fst=dn body:=by
 unfold costs dn
 rw[List.map_map]
 rfl
theorem adi (insts known:List Int) (body:List dh) (h:∀x,x∈known->0<=x∧x<=400001):∀p,p∈costs insts known body->0<=p.2∧p.2<=400001:=by
 intro p hp
 unfold costs at hp
 rw[List.mem_map] at hp
 obtain⟨s,_,rfl⟩:=hp
 exact Pz known 400001 (by omega) h _
theorem abo (rec:List (Int × Int)->Int) (insts known:List Int) (body:List dh) (f i:Nat) (sum:Int) (hi:i<body.length):Gi rec (costs insts known body) (f+1) i sum =
  (if body[i].kind=4 then Gi rec (costs insts known body) f ((je (dn body) i).2.toNat+1) (Dn (sum+(1+maxS (rec (ug (costs insts known body) (i+1) (je (dn body) i).1.toNat)) (rec (ug (costs insts known body) ((je (dn body) i).1.toNat+1) (je (dn body) i).2.toNat)))))
   else if body[i].kind=3 then Gi rec (costs insts known body) f (i+1) (Dn (sum+(1+known.getD (insts.getD body[i].at_.toNat 0).toNat 0)))
   else Gi rec (costs insts known body) f (i+1) (Dn (sum+1))):=by
 rw[Gi]
 have e:(costs insts known body)[i]?=some (body[i].kind,known.getD (insts.getD body[i].at_.toNat 0).toNat 0):=by
  unfold costs
  rw[List.getElem?_map,List.getElem?_eq_getElem hi]
  rfl
 rw[e,aqe]
theorem ai7 (rec:List (Int × Int)->Int) (insts known:List Int) (body:List dh) (f:Nat) (sum:Int):Gi rec (costs insts known body) f body.length sum=sum:=by
 cases f with
 | zero=>rfl
 | succ f =>
  have e:(costs insts known body)[body.length]?=none:=by unfold costs;simp
  rw[Gi,e]
def aly (insts known:List Int) (body:List dh):Prop:=∀s,s∈body->s.kind=3->∃ia gi:Nat,s.at_=(ia:Int)∧ia<insts.length∧insts.getD ia 0=(gi:Int)∧gi<known.length
set_option maxRecDepth 20000 in
set_option maxHeartbeats 4000000 in
theorem ato (nm:ByteArray) (insts known:List Int) (b1 b2 b3 b4 b5 b6 bk:Option Addr) (n1 n2 n3 n4 n6 c1 c2 c3 c4 c5 c6 ck:Nat) (hkb:∀x,x∈known->0<=x∧x<=400001):∀(f:Nat) (body:List dh) (v:Value) (depth:Int) (w:World),bf 6 104 Ec 0 w v body->bf 1 8 yu 0 w (.slice b5 insts.length c5) insts->bf 1 8 yu 0 w (.slice bk known.length ck) known->aly insts known body->body.length<f->zi f (dn body) depth=true ->
  Calls Tryz.prog 53 #[.agg #[.string nm,.slice b1 n1 c1,.slice b2 n2 c2,.slice b3 n3 c3,.slice b4 n4 c4,.slice b5 insts.length c5,.slice b6 n6 c6],v,.slice bk known.length ck] w fun e w'=>e=.returned (.int .i64 (sumF f (costs insts known body)))∧Below w.heap.size w w':=by
 intro f
 induction f with
 | zero=>intro body v depth w _ _ _ _ h;omega
 | succ f ih =>
  intro body v depth w hv hI hK azu hlf anu
  have HPT:=hide (fun i (hi:i<=body.length) w' (hb:Below w.heap.size w w')=>Qu body v i w' (hv.stays xu hb) hi)
  have hkl:(dn body).length=body.length:=by unfold dn;simp
  have HV:=hide hv
  have HII:=hide hI
  have HKK:=hide hK
  have atp:=hide azu
  obtain⟨a,cap,rfl,⟨_,hcap⟩,hn,hx⟩:=hv
  unfold Len at hn
  have HX:=hide hx
  have li:=hI.uy
  have lk:=hK.uy
  have HR:Hid (sumF (f+1) (costs insts known body)=Gi (sumF f) (costs insts known body) (body.length+1) 0 0):=by
   show sumF (f+1) (costs insts known body)=_
   rw[sumF]
   unfold costs
   rw[List.length_map]
  have HNE:Hid (Iw (zi f) (dn body) depth (body.length+1) 0=true):=by
   show _=true
   rw[zi,hkl] at anu
   exact anu
  have HK:=hide (fun j (hj:j<body.length)=>Pe body j hj)
  have Il:=hide (fun g i (hi:i<body.length)=>by
   have h:=Qv (zi f) (dn body) depth g i (by rw[hkl];exact hi)
   rw[uh HK i hi] at h
   exact h)
  have HST:=hide (fun g i sum (hi:i<body.length)=>abo (sumF f) insts known body g i sum hi)
  have HEN:=hide (fun g sum=>ai7 (sumF f) insts known body g sum)
  have HPB:=hide (fun i (hi:i<body.length) (h4:body[i].kind=4) h1 h2=>by
   have h:=adk (dn body) i (by rw[hkl];exact hi) (by rw[uh HK i hi];exact h4) h1 h2
   rw[hkl] at h
   exact h)
  have hA:Below w.heap.size w (w.alloc (.cells #[.string nm,.slice b1 n1 c1,.slice b2 n2 c2,.slice b3 n3 c3,.slice b4 n4 c4,.slice b5 insts.length c5,.slice b6 n6 c6] 43)):=(Below.refl _ _).alloc (Nat.le_refl _) _
  have Kt:au (w.alloc (.cells #[.string nm,.slice b1 n1 c1,.slice b2 n2 c2,.slice b3 n3 c3,.slice b4 n4 c4,.slice b5 insts.length c5,.slice b6 n6 c6] 43)) w.heap.size 43 #[.string nm,.slice b1 n1 c1,.slice b2 n2 c2,.slice b3 n3 c3,.slice b4 n4 c4,.slice b5 insts.length c5,.slice b6 n6 c6]:=jl w #[.string nm,.slice b1 n1 c1,.slice b2 n2 c2,.slice b3 n3 c3,.slice b4 n4 c4,.slice b5 insts.length c5,.slice b6 n6 c6] 43
  obtain⟨BX,gq⟩:∃BX:World->Prop,∀w',BX w'↔Below (w.heap.size+1) (w.alloc (.cells #[.string nm,.slice b1 n1 c1,.slice b2 n2 c2,.slice b3 n3 c3,.slice b4 n4 c4,.slice b5 insts.length c5,.slice b6 n6 c6] 43)) w':=⟨_,fun _=>Iff.rfl⟩
  have Oq:(w.alloc (.cells #[.string nm,.slice b1 n1 c1,.slice b2 n2 c2,.slice b3 n3 c3,.slice b4 n4 c4,.slice b5 insts.length c5,.slice b6 n6 c6] 43)).heap.size=w.heap.size+1:=by simp
  have mg:Hid (∀w1,BX w1->Below w.heap.size w w1):=fun w1 h=>hA.trans (((gq w1).1 h).mono (by omega))
  have qp:Hid (∀w1 w2,BX w1->Below w1.heap.size w1 w2->BX w2):=fun w1 w2 h h2=>(gq w2).2 (((gq w1).1 h).trans (h2.mono (by have:=((gq w1).1 h).size;omega)))
  have yg:Hid (∀w1,BX w1->w1.cell? ⟨w.heap.size,0,none⟩=some (.string nm)∧w1.cell? ⟨w.heap.size,1,none⟩=some (.slice b1 n1 c1)∧w1.cell? ⟨w.heap.size,2,none⟩=some (.slice b2 n2 c2)∧w1.cell? ⟨w.heap.size,3,none⟩=some (.slice b3 n3 c3)∧w1.cell? ⟨w.heap.size,4,none⟩=some (.slice b4 n4 c4)∧w1.cell? ⟨w.heap.size,5,none⟩=some (.slice b5 insts.length c5)∧w1.cell? ⟨w.heap.size,6,none⟩=some (.slice b6 n6 c6)):=fun w1 h=>⟨(Kt.below ((gq w1).1 h) (by omega)).cell (i:=0) (v:=.string nm) rfl,(Kt.below ((gq w1).1 h) (by omega)).cell (i:=1) (v:=.slice b1 n1 c1) rfl,(Kt.below ((gq w1).1 h) (by omega)).cell (i:=2) (v:=.slice b2 n2 c2) rfl,(Kt.below ((gq w1).1 h) (by omega)).cell (i:=3) (v:=.slice b3 n3 c3) rfl,(Kt.below ((gq w1).1 h) (by omega)).cell (i:=4) (v:=.slice b4 n4 c4) rfl,(Kt.below ((gq w1).1 h) (by omega)).cell (i:=5) (v:=.slice b5 insts.length c5) rfl,(Kt.below ((gq w1).1 h) (by omega)).cell (i:=6) (v:=.slice b6 n6 c6) rfl⟩
  have HX0:Hid (BX (w.alloc (.cells #[.string nm,.slice b1 n1 c1,.slice b2 n2 c2,.slice b3 n3 c3,.slice b4 n4 c4,.slice b5 insts.length c5,.slice b6 n6 c6] 43))):=(gq _).2 (Below.refl _ _)
  have HIH:Hid (∀p q b o,a=some ⟨b,o,none⟩->p<=q->q<=body.length->0<p->zi f (ug (dn body) p q) (depth+1)=true->∀w0,BX w0->Calls Tryz.prog 53 #[.agg #[.string nm,.slice b1 n1 c1,.slice b2 n2 c2,.slice b3 n3 c3,.slice b4 n4 c4,.slice b5 insts.length c5,.slice b6 n6 c6],.slice (some ⟨b,o+p*6,none⟩) (q-p) (cap-p),.slice bk known.length ck] w0.drew fun e w'=>e=.returned (.int .i64 (sumF f (ug (costs insts known body) p q)))∧BX w'∧w'.cell? ⟨w.heap.size,0,none⟩=some (.string nm)∧w'.cell? ⟨w.heap.size,1,none⟩=some (.slice b1 n1 c1)∧w'.cell? ⟨w.heap.size,2,none⟩=some (.slice b2 n2 c2)∧w'.cell? ⟨w.heap.size,3,none⟩=some (.slice b3 n3 c3)∧w'.cell? ⟨w.heap.size,4,none⟩=some (.slice b4 n4 c4)∧w'.cell? ⟨w.heap.size,5,none⟩=some (.slice b5 insts.length c5)∧w'.cell? ⟨w.heap.size,6,none⟩=some (.slice b6 n6 c6)):=fun p q b o ha hp hq h0 hne w0 hb0=>by
   subst ha
   have hdr:=uh qp _ _ hb0 (Below.refl _ w0).drew
   have hbw:=uh mg _ hdr
   have hs:=((uh HV).stays xu hbw).sub p q hp hq
   have hl:=Gh body p q hp hq
   have e:dn (ug body p q)=ug (dn body) p q:=Z9 _ _ _ _
   have e2:costs insts known (ug body p q)=ug (costs insts known body) p q:=Z9 _ _ _ _
   have h:=ih (ug body p q) _ (depth+1) w0.drew hs ((uh HII).stays jy hbw) ((uh HKK).stays jy hbw) (fun s hs=>uh atp s (afs hs)) (by omega) (by rw[e];exact hne)
   rw[e2] at h
   refine h.mono ?_
   rintro e w' ⟨rfl,hb'⟩
   have hx':=uh qp _ _ hdr hb'
   exact⟨rfl,hx',uh yg _ hx'⟩
  have Xa:Hid (∀i (hi:i<body.length),body[i].kind=3->∃ia gi ib io kb ko,body[i].at_=((ia:Nat):Int)∧ia<insts.length∧gi<known.length∧known.getD (insts.getD body[i].at_.toNat 0).toNat 0=known.getD gi 0∧b5=some ⟨ib,io,none⟩∧bk=some ⟨kb,ko,none⟩∧∀w',BX w'->w'.cell? ⟨ib,io+ia,none⟩=some (.int .i64 ((gi:Nat):Int))∧w'.cell? ⟨kb,ko+gi,none⟩=some (.int .i64 (known.getD gi 0))):=fun i hi h3=>by
   obtain⟨ia,gi,e1,e2,e3,e4⟩:=uh atp body[i] (List.getElem_mem hi) h3
   obtain⟨_,_,hv1,_,_,hx1⟩:=uh HII
   simp only[Value.slice.injEq] at hv1
   obtain⟨rfl,_,rfl⟩:=hv1
   obtain⟨ib,io,_,rfl,_,hib,_,hic,⟨rfl,_⟩⟩:=hx1 ia e2
   obtain⟨_,_,hv2,_,_,hx2⟩:=uh HKK
   simp only[Value.slice.injEq] at hv2
   obtain⟨rfl,_,rfl⟩:=hv2
   obtain⟨kb,ko,_,rfl,_,hkb',_,hkc,⟨rfl,_⟩⟩:=hx2 gi e4
   have e5:insts[ia]=(gi:Int):=by
    rw[List.getD_eq_getElem?_getD,List.getElem?_eq_getElem e2] at e3
    exact e3
   refine⟨ia,gi,ib,io,kb,ko,e1,e2,e4,by rw[e1,Int.toNat_natCast,e3,Int.toNat_natCast],rfl,rfl,fun w' hb'=>⟨?_,?_⟩⟩
   ·rw[(uh mg _ hb').cell (p:=⟨ib,_,none⟩) hib]
    have h0:=hic 0 (by simp)
    rw[Nat.mul_one,Nat.add_zero] at h0
    rw[h0,←e5]
    rfl
   ·rw[(uh mg _ hb').cell (p:=⟨kb,_,none⟩) hkb']
    have h0:=hkc 0 (by simp)
    rw[Nat.mul_one,Nat.add_zero] at h0
    rw[h0,List.getD_eq_getElem?_getD,List.getElem?_eq_getElem e4]
    rfl
  have HSB:=hide (fun p q=>aft f (ug (costs insts known body) p q) (fun x hx=>adi insts known body hkb x (afs hx)))
  have Wy:=hide (fun i=>Pz known 400001 (by omega) hkb i)
  clear hx hkl ih HV HK hA Kt gq Oq HII HKK atp hI hK azu anu hkb
  generalize sumF (f+1) (costs insts known body)=R at *
  generalize costs insts known body=ps at *
  generalize dn body=ks at *
  go_enter Tryz.func53,Tryz.ntmps53
  go_wp2
  go_loopg [7,8] (body.length) (fun g sv iv wr=>∃(i fu:Nat) (sum:Int),i<=body.length∧g=body.length-i∧iv=.int .i64 i∧sv=.int .i64 sum∧body.length<fu+i∧0<=sum∧sum<=400001∧R=Gi (sumF f) ps fu i sum∧Iw (zi f) ks depth fu i=true∧BX wr)
  case atStart=>exact⟨0,body.length+1,0,Nat.zero_le _,by omega,rfl,rfl,by omega,by omega,by omega,uh HR,uh HNE,uh HX0⟩
  case round =>
   obtain⟨i,fu,sum,hi,hg,rfl,rfl,hfu,hs1,hs2,hR,hN,hbx⟩:=hrel
   rename World=>wr
   have HG:=hide hg
   have HRR:=hide hR
   have Wq:=hide hN
   have Fa:=hide hbx
   clear hg hR hN
   by_cases hlt:i<body.length
   case neg =>
    have e:i=body.length:=by omega
    subst e
    have HF:=hide ((uh HRR).trans (uh HEN fu sum))
    have HB:=hide (uh mg _ hbx)
    go_wp2
    go_ret
    exact⟨by rw[uh HF];rfl,uh HB⟩
   obtain⟨b,o,cs,ql,_,hb,hcs,hc,⟨q1,q2,q3,rfl,-⟩⟩:=uh HX i hlt
   have HAB:=hide ql
   have r0:=hc 0 (by simp)
   have r2:=hc 2 (by simp)
   simp only[Nat.add_zero,List.getElem_cons_zero,List.getElem_cons_succ] at r0 r2
   rw[←(uh mg _ hbx).cell (p:=⟨b,_,none⟩) hb] at r0 r2
   obtain⟨k0,k1,k2,k3,k4,k5,k6⟩:=uh yg _ hbx
   obtain⟨Iq,rfl⟩:∃Iq,fu=Iq+1:=⟨fu-1,by omega⟩
   have HS:=hide ((uh HRR).trans (uh HST Iq i sum hlt))
   have hnn:=uh Wq
   rw[uh Il Iq i hlt] at hnn
   have abp:=hide (uh HPB i hlt)
   have Eo:=hide (uh HPT i hi _ (uh mg _ hbx))
   have HI2:=hide (fun p q=>uh HIH p q b o (uh HAB))
   have anv:=hide (uh Xa i hlt)
   subst ql
   have hlt':(i:Int)<(body.length:Int):=by omega
   clear hc hcs HRR Wq hbx
   generalize body[i].kind=kd at *
   generalize body[i].at_=av at *
   by_cases Qw:kd=5∨kd=6
   ·rw[if_pos Qw] at hnn
    cases hnn
   rw[if_neg Qw] at hnn
   by_cases h4:kd=4
   case neg =>
    rw[if_neg h4] at hnn
    have Eb:=hide hnn
    have hS:=uh HS
    rw[if_neg h4] at hS
    have y4:(kd == 4)=false:=by rw[beq_eq_false_iff_ne];omega
    clear HS hnn Qw h4 abp Eo HI2
    by_cases h3:kd=3
    ·rw[if_pos h3] at hS
     have y3:(kd == 3)=true:=by simp[h3]
     obtain⟨ia,gi,ib,io,kb,ko,rfl,hia,hgi,heq,rfl,rfl,hce⟩:=uh anv h3
     rw[heq] at hS
     have HS:=hide hS
     obtain⟨u1,u2⟩:=hce _ (uh Fa)
     obtain⟨v1,v2⟩:=uh Wy gi
     have a6f:(ia:Int)<(insts.length:Int):=by omega
     have hgi':(gi:Int)<(known.length:Int):=by omega
     clear hS h3 hce heq anv Xa HIH
     generalize known.getD gi 0=gv at *
     have HQn:Hid (∀n,BX (wr.drewN n)):=fun n=>uh qp _ _ (uh Fa) ⟨rfl,rfl,rfl,Nat.le_refl _,fun _ _=>rfl⟩
     by_cases hgt:400000<sum+(1+gv)
     ·have f9:decide (400000<sum+(1+gv))=true:=decide_eq_true hgt
      have HF:Hid (R=Gi (sumF f) ps Iq (i+1) 400001):=(uh HS).trans (by unfold Dn;rw[if_pos hgt])
      clear HS hgt
      go_wp2_with fail
      go_quiet ((fail))
      go_wp2
      go_roundg (body.length-(i+1))
      case measure=>have:=uh HG;omega
      case rel=>exact⟨i+1,Iq,400001,by omega,rfl,by go_num,rfl,by omega,by omega,by omega,uh HF,uh Eb,uh HQn _⟩
     ·have f9:decide (400000<sum+(1+gv))=false:=decide_eq_false hgt
      have HF:Hid (R=Gi (sumF f) ps Iq (i+1) (sum+(1+gv))):=(uh HS).trans (by unfold Dn;rw[if_neg hgt])
      clear HS
      go_wp2_with fail
      go_quiet ((fail))
      go_wp2
      go_roundg (body.length-(i+1))
      case measure=>have:=uh HG;omega
      case rel=>exact⟨i+1,Iq,sum+(1+gv),by omega,rfl,by go_num,rfl,by omega,by omega,by omega,uh HF,uh Eb,uh HQn _⟩
    ·rw[if_neg h3] at hS
     have y3:(kd == 3)=false:=by simp[h3]
     have HS:=hide hS
     clear hS h3 anv Xa HIH
     by_cases hgt:400000<sum+1
     ·have f9:decide (400000<sum+1)=true:=decide_eq_true hgt
      have HF:Hid (R=Gi (sumF f) ps Iq (i+1) 400001):=(uh HS).trans (by unfold Dn;rw[if_pos hgt])
      clear HS hgt
      go_wp2
      go_roundg (body.length-(i+1))
      case measure=>have:=uh HG;omega
      case rel=>exact⟨i+1,Iq,400001,by omega,rfl,by go_num,rfl,by omega,by omega,by omega,uh HF,uh Eb,uh Fa⟩
     ·have f9:decide (400000<sum+1)=false:=decide_eq_false hgt
      have HF:Hid (R=Gi (sumF f) ps Iq (i+1) (sum+1)):=(uh HS).trans (by unfold Dn;rw[if_neg hgt])
      clear HS
      go_wp2
      go_roundg (body.length-(i+1))
      case measure=>have:=uh HG;omega
      case rel=>exact⟨i+1,Iq,sum+1,by omega,rfl,by go_num,rfl,by omega,by omega,by omega,uh HF,uh Eb,uh Fa⟩
   rw[if_pos h4] at hnn
   have y4:(kd == 4)=true:=by simp[h4]
   have abq:=hide (uh abp h4)
   have hS:=uh HS
   rw[if_pos h4] at hS
   clear HS abp Qw h4 anv Xa
   generalize je ks i=pp at *
   obtain⟨po,pe⟩:=pp
   simp only at hS hnn abq Eo
   by_cases hneg:po<0∨pe<0
   ·rw[if_pos hneg] at hnn
    cases hnn
   rw[if_neg hneg] at hnn
   have hpb:=uh abq (by omega) (by omega)
   obtain⟨pn,rfl⟩:=Int.eq_ofNat_of_zero_le (show 0<=po by omega)
   obtain⟨en,rfl⟩:=Int.eq_ofNat_of_zero_le (show 0<=pe by omega)
   simp only[Int.toNat_natCast] at hS hnn
   split at hnn
   ·cases hnn
   split at hnn
   ·cases hnn
   rename_i hne1
   split at hnn
   ·cases hnn
   rename_i hne2
   rw[Bool.not_eq_false] at hne1 hne2
   have qg:=hide (uh HI2 (i+1) pn (by omega) (by omega) (by omega) hne1 wr (uh Fa))
   have HC2:=hide (fun w0 hb0=>uh HI2 (pn+1) en (by omega) (by omega) (by omega) hne2 w0 hb0)
   have Eb:=hide hnn
   have g1:(0:Int)<=(i:Int)+1:=by omega
   have g2:(i:Int)+1<=(pn:Int):=by omega
   have g3:(pn:Int)<=(cap:Int):=by omega
   have g4:(0:Int)<=(pn:Int)+1:=by omega
   have g5:(pn:Int)+1<=(en:Int):=by omega
   have g6:(en:Int)<=(cap:Int):=by omega
   have wr1:IntKind.i64.wrap ((i:Int)+1)=(i:Int)+1:=by rw[IntKind.wrap_i64];omega
   have wr2:IntKind.i64.wrap ((pn:Int)+1)=(pn:Int)+1:=by rw[IntKind.wrap_i64];omega
   have cn1:¬cap=i+1:=by omega
   have cn2:¬cap=pn+1:=by omega
   have hnb:i+1<=pn∧pn+1<=en∧en<body.length:=by omega
   obtain⟨t1,t2⟩:=uh HSB (i+1) pn
   obtain⟨t3,t4⟩:=uh HSB (pn+1) en
   have HS:=hide hS
   clear abq HI2 hneg hpb hne1 hne2 hnn hS HIH HSB HPT HPB r2
   generalize sumF f (ug ps (i+1) pn)=v1 at *
   generalize sumF f (ug ps (pn+1) en)=v2 at *
   by_cases anw:v1<v2
   ·have e5:decide (v1<v2)=true:=decide_eq_true anw
    have e6:maxS v1 v2=v2:=by unfold maxS;rw[if_pos anw]
    rw[e6] at HS
    clear e6
    by_cases hgt:400000<sum+(1+v2)
    ·have f9:decide (400000<sum+(1+v2))=true:=decide_eq_true hgt
     have HF:Hid (R=Gi (sumF f) ps Iq (en+1) 400001):=(uh HS).trans (by unfold Dn;rw[if_pos hgt])
     clear HS hgt
     go_wp2_with fail
     refine(uh Eo).mono ?_
     rintro e w9 ⟨rfl,h9⟩
     obtain rfl:=h9.symm
     clear h9
     clear Eo HST HEN Il HX HR HNE Wy HX0 r0 y4
     go_wp2_with fail
     go_region_held3 (fun w'=>w'.cell? ⟨w.heap.size,0,none⟩=some (.string nm)∧w'.cell? ⟨w.heap.size,1,none⟩=some (.slice b1 n1 c1)∧w'.cell? ⟨w.heap.size,2,none⟩=some (.slice b2 n2 c2)∧w'.cell? ⟨w.heap.size,3,none⟩=some (.slice b3 n3 c3)∧w'.cell? ⟨w.heap.size,4,none⟩=some (.slice b4 n4 c4)∧w'.cell? ⟨w.heap.size,5,none⟩=some (.slice b5 insts.length c5)∧w'.cell? ⟨w.heap.size,6,none⟩=some (.slice b6 n6 c6)) (go_keep) (first|(go_at_call 53;refine(uh qg).mono ?_;rintro e w8 ⟨rfl,hBm,m0,m1,m2,m3,m4,m5,m6⟩))
     have Io:=hide (uh HC2 w8 hBm)
     clear HC2 qg
     go_wp2_with fail
     go_region_held3 (fun w'=>w'.cell? ⟨w.heap.size,0,none⟩=some (.string nm)∧w'.cell? ⟨w.heap.size,1,none⟩=some (.slice b1 n1 c1)∧w'.cell? ⟨w.heap.size,2,none⟩=some (.slice b2 n2 c2)∧w'.cell? ⟨w.heap.size,3,none⟩=some (.slice b3 n3 c3)∧w'.cell? ⟨w.heap.size,4,none⟩=some (.slice b4 n4 c4)∧w'.cell? ⟨w.heap.size,5,none⟩=some (.slice b5 insts.length c5)∧w'.cell? ⟨w.heap.size,6,none⟩=some (.slice b6 n6 c6)) (go_keep) (first|(go_at_call 53;refine(uh Io).mono ?_;rintro e w7 ⟨rfl,hBl,l0,l1,l2,l3,l4,l5,l6⟩))
     have qx:=hide hBl
     go_wp2
     go_roundg (body.length-(en+1))
     case measure=>have:=uh HG;omega
     case rel=>exact⟨en+1,Iq,400001,by omega,rfl,by go_num,rfl,by omega,by omega,by omega,uh HF,uh Eb,uh qx⟩
    ·have f9:decide (400000<sum+(1+v2))=false:=decide_eq_false hgt
     have HF:Hid (R=Gi (sumF f) ps Iq (en+1) (sum+(1+v2))):=(uh HS).trans (by unfold Dn;rw[if_neg hgt])
     clear HS
     go_wp2_with fail
     refine(uh Eo).mono ?_
     rintro e w9 ⟨rfl,h9⟩
     obtain rfl:=h9.symm
     clear h9
     clear Eo HST HEN Il HX HR HNE Wy HX0 r0 y4
     go_wp2_with fail
     go_region_held3 (fun w'=>w'.cell? ⟨w.heap.size,0,none⟩=some (.string nm)∧w'.cell? ⟨w.heap.size,1,none⟩=some (.slice b1 n1 c1)∧w'.cell? ⟨w.heap.size,2,none⟩=some (.slice b2 n2 c2)∧w'.cell? ⟨w.heap.size,3,none⟩=some (.slice b3 n3 c3)∧w'.cell? ⟨w.heap.size,4,none⟩=some (.slice b4 n4 c4)∧w'.cell? ⟨w.heap.size,5,none⟩=some (.slice b5 insts.length c5)∧w'.cell? ⟨w.heap.size,6,none⟩=some (.slice b6 n6 c6)) (go_keep) (first|(go_at_call 53;refine(uh qg).mono ?_;rintro e w8 ⟨rfl,hBm,m0,m1,m2,m3,m4,m5,m6⟩))
     have Io:=hide (uh HC2 w8 hBm)
     clear HC2 qg
     go_wp2_with fail
     go_region_held3 (fun w'=>w'.cell? ⟨w.heap.size,0,none⟩=some (.string nm)∧w'.cell? ⟨w.heap.size,1,none⟩=some (.slice b1 n1 c1)∧w'.cell? ⟨w.heap.size,2,none⟩=some (.slice b2 n2 c2)∧w'.cell? ⟨w.heap.size,3,none⟩=some (.slice b3 n3 c3)∧w'.cell? ⟨w.heap.size,4,none⟩=some (.slice b4 n4 c4)∧w'.cell? ⟨w.heap.size,5,none⟩=some (.slice b5 insts.length c5)∧w'.cell? ⟨w.heap.size,6,none⟩=some (.slice b6 n6 c6)) (go_keep) (first|(go_at_call 53;refine(uh Io).mono ?_;rintro e w7 ⟨rfl,hBl,l0,l1,l2,l3,l4,l5,l6⟩))
     have qx:=hide hBl
     go_wp2
     go_roundg (body.length-(en+1))
     case measure=>have:=uh HG;omega
     case rel=>exact⟨en+1,Iq,sum+(1+v2),by omega,rfl,by go_num,rfl,by omega,by omega,by omega,uh HF,uh Eb,uh qx⟩
   ·have e5:decide (v1<v2)=false:=decide_eq_false anw
    have e6:maxS v1 v2=v1:=by unfold maxS;rw[if_neg anw]
    rw[e6] at HS
    clear e6
    by_cases hgt:400000<sum+(1+v1)
    ·have f9:decide (400000<sum+(1+v1))=true:=decide_eq_true hgt
     have HF:Hid (R=Gi (sumF f) ps Iq (en+1) 400001):=(uh HS).trans (by unfold Dn;rw[if_pos hgt])
     clear HS hgt
     go_wp2_with fail
     refine(uh Eo).mono ?_
     rintro e w9 ⟨rfl,h9⟩
     obtain rfl:=h9.symm
     clear h9
     clear Eo HST HEN Il HX HR HNE Wy HX0 r0 y4
     go_wp2_with fail
     go_region_held3 (fun w'=>w'.cell? ⟨w.heap.size,0,none⟩=some (.string nm)∧w'.cell? ⟨w.heap.size,1,none⟩=some (.slice b1 n1 c1)∧w'.cell? ⟨w.heap.size,2,none⟩=some (.slice b2 n2 c2)∧w'.cell? ⟨w.heap.size,3,none⟩=some (.slice b3 n3 c3)∧w'.cell? ⟨w.heap.size,4,none⟩=some (.slice b4 n4 c4)∧w'.cell? ⟨w.heap.size,5,none⟩=some (.slice b5 insts.length c5)∧w'.cell? ⟨w.heap.size,6,none⟩=some (.slice b6 n6 c6)) (go_keep) (first|(go_at_call 53;refine(uh qg).mono ?_;rintro e w8 ⟨rfl,hBm,m0,m1,m2,m3,m4,m5,m6⟩))
     have Io:=hide (uh HC2 w8 hBm)
     clear HC2 qg
     go_wp2_with fail
     go_region_held3 (fun w'=>w'.cell? ⟨w.heap.size,0,none⟩=some (.string nm)∧w'.cell? ⟨w.heap.size,1,none⟩=some (.slice b1 n1 c1)∧w'.cell? ⟨w.heap.size,2,none⟩=some (.slice b2 n2 c2)∧w'.cell? ⟨w.heap.size,3,none⟩=some (.slice b3 n3 c3)∧w'.cell? ⟨w.heap.size,4,none⟩=some (.slice b4 n4 c4)∧w'.cell? ⟨w.heap.size,5,none⟩=some (.slice b5 insts.length c5)∧w'.cell? ⟨w.heap.size,6,none⟩=some (.slice b6 n6 c6)) (go_keep) (first|(go_at_call 53;refine(uh Io).mono ?_;rintro e w7 ⟨rfl,hBl,l0,l1,l2,l3,l4,l5,l6⟩))
     have qx:=hide hBl
     go_wp2
     go_roundg (body.length-(en+1))
     case measure=>have:=uh HG;omega
     case rel=>exact⟨en+1,Iq,400001,by omega,rfl,by go_num,rfl,by omega,by omega,by omega,uh HF,uh Eb,uh qx⟩
    ·have f9:decide (400000<sum+(1+v1))=false:=decide_eq_false hgt
     have HF:Hid (R=Gi (sumF f) ps Iq (en+1) (sum+(1+v1))):=(uh HS).trans (by unfold Dn;rw[if_neg hgt])
     clear HS
     go_wp2_with fail
     refine(uh Eo).mono ?_
     rintro e w9 ⟨rfl,h9⟩
     obtain rfl:=h9.symm
     clear h9
     clear Eo HST HEN Il HX HR HNE Wy HX0 r0 y4
     go_wp2_with fail
     go_region_held3 (fun w'=>w'.cell? ⟨w.heap.size,0,none⟩=some (.string nm)∧w'.cell? ⟨w.heap.size,1,none⟩=some (.slice b1 n1 c1)∧w'.cell? ⟨w.heap.size,2,none⟩=some (.slice b2 n2 c2)∧w'.cell? ⟨w.heap.size,3,none⟩=some (.slice b3 n3 c3)∧w'.cell? ⟨w.heap.size,4,none⟩=some (.slice b4 n4 c4)∧w'.cell? ⟨w.heap.size,5,none⟩=some (.slice b5 insts.length c5)∧w'.cell? ⟨w.heap.size,6,none⟩=some (.slice b6 n6 c6)) (go_keep) (first|(go_at_call 53;refine(uh qg).mono ?_;rintro e w8 ⟨rfl,hBm,m0,m1,m2,m3,m4,m5,m6⟩))
     have Io:=hide (uh HC2 w8 hBm)
     clear HC2 qg
     go_wp2_with fail
     go_region_held3 (fun w'=>w'.cell? ⟨w.heap.size,0,none⟩=some (.string nm)∧w'.cell? ⟨w.heap.size,1,none⟩=some (.slice b1 n1 c1)∧w'.cell? ⟨w.heap.size,2,none⟩=some (.slice b2 n2 c2)∧w'.cell? ⟨w.heap.size,3,none⟩=some (.slice b3 n3 c3)∧w'.cell? ⟨w.heap.size,4,none⟩=some (.slice b4 n4 c4)∧w'.cell? ⟨w.heap.size,5,none⟩=some (.slice b5 insts.length c5)∧w'.cell? ⟨w.heap.size,6,none⟩=some (.slice b6 n6 c6)) (go_keep) (first|(go_at_call 53;refine(uh Io).mono ?_;rintro e w7 ⟨rfl,hBl,l0,l1,l2,l3,l4,l5,l6⟩))
     have qx:=hide hBl
     go_wp2
     go_roundg (body.length-(en+1))
     case measure=>have:=uh HG;omega
     case rel=>exact⟨en+1,Iq,sum+(1+v1),by omega,rfl,by go_num,rfl,by omega,by omega,by omega,uh HF,uh Eb,uh qx⟩
end Go.Proofs.YtlcgnbcgmljpaaaGreat
