import Derived.Test.YtfeejeflmcapoaaGreatDoorRG1
import Derived.Test.YtfeejeflmcapoaaGreatDoorRS3
import Derived.Test.YtfeejeflmcapoaaGreatDoorEvI
import Derived.Deep.RegionHeld3
import Derived.Deep.QuietTactic
import Derived.BigQuiet
set_option linter.unusedSimpArgs false
set_option linter.unusedVariables false
set_option maxHeartbeats 4000000
set_option maxRecDepth 20000
namespace Go.Proofs.YtfeejeflmcapoaaGreatDoor
open Go.RowKit
def Dk (ps:List dh):List l9:=ps.map Jf
def abj (ps:List dh):List (List l9):=if ps=[] then [] else (cutAt Bl ps).map Dk
def K0 (nm:dh):dw:=⟨nm,[],[],[],[],[],[]⟩
def fA (f:List dh) (i:Nat):dh:=f.getD i E0
def af6 (cs:List dw) (nm:dh) (i:Nat):Bool:=match cs[i]? with|some k=>decide (k.name=nm)|none=>false
def af5 (cs:List dw) (nm:dh):Option Nat:=(List.range (cs.length-1)).find? (af6 cs nm)
def Dj (k:dw) (s:lu):dw:={ k with body:=k.body++[s] }
def lineS (cs:List dw) (eu:dh) (f:List dh) (k:dw):dw :=
 if fA f 0=Ic/\f.length=3 then { k with ins:=k.ins++[⟨fA f 1,if fA f 2=Z9 then 1 else 2⟩] }
 else if fA f 0=Dz/\f.length=3 then { k with au:=k.au++[⟨fA f 1,if fA f 2=Z9 then 1 else 2⟩] }
 else if fA f 0=Ee/\f.length=2 then { k with iw:=k.iw++[fA f 1] }
 else if fA f 0=Ef/\f.length=2 then { k with gq:=k.gq++[Bd (fA f 1)] }
 else if fA f 0=Eh/\f.length=2 then (match af5 cs (fA f 1) with|some i=>{ k with ay:=k.ay++[(i:Int)] }|none=>k)
 else if fA f 0=Je/\je f ql=2 then Dj k ⟨1,fA f 1,0,[],Dk (f.drop 3),[]⟩
 else if fA f 0=Fp/\je f ql=2 then Dj k ⟨2,E0,Bd (fA f 1),[],Dk (f.drop 3),[]⟩
 else if fA f 0=Qg/\f.length=2 then Dj k ⟨4,fA f 1,0,[],[],[]⟩
 else if eu=Fg then Dj k ⟨5,E0,0,[],[],[]⟩
 else if eu=Iz then Dj k ⟨6,E0,0,[],[],[]⟩
 else if fA f 0=zx/\2<je f ql then Dj k ⟨3,E0,Bd (fA f 1),wz f 2 (je f ql).toNat,[],abj (f.drop ((je f ql).toNat+1))⟩
 else k
def upL (cs:List dw) (g:dw->dw):List dw:=match cs.getLast? with|some k=>cs.dropLast++[g k]|none=>[]
theorem Aa (a:List dw) (k:dw) (g:dw->dw):upL (a++[k]) g=a++[g k]:=by
 unfold upL;simp
theorem ak2 (g:dw->dw):upL [] g=[]:=rfl
def Iq (cs:List dw) (f:List dh):List dw:=if fA f 0=vw/\f.length=2 then cs++[K0 (fA f 1)] else cs
def stepS (cs:List dw) (eu:dh):List dw:=upL (Iq cs (wordsOf 32 eu)) (lineS (Iq cs (wordsOf 32 eu)) eu (wordsOf 32 eu))
def Np (t:dh):List dw:=(wordsOf 10 t).foldl stepS []
def Nu (s:dh):Prop:=∀b,b∈bL s->b≠32/\b≠10/\b≠44/\b≠58
theorem Nu.no {s:dh} (h:Nu s):32∉bL s/\10∉bL s:=⟨fun h9=>(h _ h9).1 rfl,fun h9=>(h _ h9).2.1 rfl⟩
theorem Nu.col {s:dh} (h:Nu s):s≠ql:=fun e=>(h 58 (by rw[e];decide)).2.2.2 rfl
theorem aau (v:Int):Nu (qo v):=fun b hb=>⟨fun e=>ad6 v 32 (by decide) (by decide) (e▸hb),fun e=>ad6 v 10 (by decide) (by decide) (e▸hb),fun e=>ad6 v 44 (by decide) (by decide) (e▸hb),fun e=>ad6 v 58 (by decide) (by decide) (e▸hb)⟩
structure aez (s:lu):Prop where
 kind:1<=s.kind/\s.kind<=6
 nm:s.kind=1\/s.kind=4->Nu s.name
 X5:s.kind≠1->s.kind≠4->s.name=E0
 at_:s.kind=2\/s.kind=3->0<=s.at_/\s.at_<=1000
 ak3:s.kind≠2->s.kind≠3->s.at_=0
 agj:s.kind≠3->s.au=[]/\s.args=[]
 ad7:s.kind≠1->s.kind≠2->s.code=[]
 code:∀t,t∈s.code->Si t
 au:s.kind=3->s.au≠[]/\∀x,x∈s.au->Nu x
 args:∀c,c∈s.args->c≠[]/\∀t,t∈c->Si t
theorem aha (c:List l9) (h:∀t,t∈c->Si t):Dk (tu c)=c:=by
 unfold Dk tu;rw[List.map_map];conv=>rhs;rw[←List.map_id c]
 exact List.map_congr_left (fun t ht=>aua t (h t ht))
theorem aiu (c:List l9) (h:∀t,t∈c->Si t):∀p,p∈tu c->(32∉bL p/\10∉bL p)/\p≠Bl/\p≠ql:=fun p hp=>by
 obtain⟨t,ht,rfl⟩:=List.mem_map.1 hp;exact a5l t (h t ht)
theorem apa (Af:List (List l9)) (h:∀c,c∈Af->∀t,t∈c->Si t):∀i,i<=Af.length->∀r:List dh,Bl∉r->1<=i->cutAt Bl (vg Af i++r)=((Af.take (i-1)).map tu)++[tu (Af.getD (i-1) [])++r]:=by
 intro i
 induction i with
 | zero=>intro _ r _ h1;omega
 | succ i ih =>
  intro hi r hr _;have h2:Af.getD i []=Af[i]'(by omega):=by rw[yw,jy (by omega)];rfl
  have hc:Bl∉tu (Af.getD i []):=fun h9=>by
   rw[h2] at h9;exact(aiu _ (h _ (o7 _)) _ h9).2.1 rfl
  have hcr:Bl∉tu (Af.getD i [])++r:=fun h9=>(Dx.1 h9).elim hc hr
  rw[vg]
  by_cases c:i=0
  ·subst c
   simp only[vg,gy,Gm,Ba,Nat.sub_self,Nj,Fv];exact Ul _ _ hcr
  ·rw[bf c,show vg Af i++[Bl]++tu (Af.getD i [])++r=vg Af i++(Bl::(tu (Af.getD i [])++r)) from by simp]
   have h9:=ih (by omega) [] (by simp) (by omega);rw[Aq] at h9
   have e1:∀(a b:List dh),cutAt Bl (a++Bl::b)=(cutAt Bl a)++cutAt Bl b:=by
    intro a b
    induction a with
    | nil=>simp[cutAt]
    | cons x a iha =>
     rw[Ew,cutAt,cutAt]
     by_cases hx:x=Bl
     ·rw[gy hx,gy hx,iha];rfl
     ·rw[bf hx,bf hx,iha]
      have e9:=Uc Bl a;rw[e9];rfl
   rw[e1,h9,Ul _ _ hcr,Aq]
   have e2:(Af.take (i+1-1)).map tu=(Af.take (i-1)).map tu++[tu (Af.getD (i-1) [])]:=by
    obtain⟨j,rfl⟩:∃j,i=j+1:=⟨i-1,by omega⟩;have h3:Af.getD j []=Af[j]'(by omega):=by rw[yw,jy (by omega)];rfl
    simp only[Nat.add_sub_cancel];rw[Eu (by omega),Ig,h3];rfl
   rw[e2];simp
theorem a1c (Af:List (List l9)) (h:∀c,c∈Af->∀t,t∈c->Si t):∀i,1<=i->i<=Af.length->(cutAt Bl (vg Af i)).map Dk=Af.take i:=by
 intro i h1 hi;have h9:=apa Af h i hi [] (by simp) h1;rw[Aq] at h9;rw[h9,Ig,List.map_map];obtain⟨j,rfl⟩:∃j,i=j+1:=⟨i-1,by omega⟩;have h3:Af.getD j []=Af[j]'(by omega):=by rw[yw,jy (by omega)];rfl
 simp only[Nat.add_sub_cancel,Ai,Fv,Aq];rw[Eu (by omega),h3,aha _ (h _ (o7 _))];congr 1;conv=>rhs;rw[←List.map_id (Af.take j)]
 exact List.map_congr_left (fun c hc=>aha c (h c (List.mem_of_mem_take hc)))
theorem a5m (Af:List (List l9)) (h:∀c,c∈Af->c≠[]/\∀t,t∈c->Si t):abj (vg Af Af.length)=Af:=by
 unfold abj
 by_cases e:Af=[]
 ·subst e
  rfl
 ·have hl:1<=Af.length:=E5.2 e
  rw[bf (agb Af (fun c hc=>(h c hc).1) _ hl (gu _)),a1c Af (fun c hc=>(h c hc).2) _ hl (gu _),Dw]
theorem axd (Af:List (List l9)) (h:∀c,c∈Af->∀t,t∈c->Si t):∀i,i<=Af.length->∀p,p∈vg Af i->32∉bL p/\10∉bL p:=by
 intro i
 induction i with
 | zero=>intro _ p hp;cases hp
 | succ i ih =>
  intro hi p hp;have h2:Af.getD i []=Af[i]'(by omega):=by rw[yw,jy (by omega)];rfl
  rw[vg,h2] at hp;rcases Dx.1 hp with h9|h9
  ·rcases Dx.1 h9 with h8|h8
   ·exact ih (by omega) p h8
   ·split at h8
    ·cases h8
    ·rw[yt] at h8;rw[h8];decide
  ·exact(aiu _ (h _ (o7 _)) p h9).1
theorem adw (s:lu) (h:aez s):x9 s≠[]/\∀p,p∈x9 s->32∉bL p/\10∉bL p:=by
 have w:∀p,p∈[Je,Fp,zx,Qg,Fg,Iz,ql]->32∉bL p/\10∉bL p:=by decide
 have hk:=h.kind;have hcode:=fun p hp=>(aiu s.code h.code p hp).1
 unfold x9
 by_cases c1:s.kind=1
 ·rw[gy c1]
  refine⟨by simp,fun p hp=>?_⟩;simp only[Dx,qj,xq,xu] at hp;rcases hp with (rfl|rfl|rfl)|hp
  ·exact w _ (by simp)
  ·exact(h.nm (Or.inl c1)).no
  ·exact w _ (by simp)
  ·exact hcode p hp
 rw[bf c1]
 by_cases c2:s.kind=2
 ·rw[gy c2]
  refine⟨by simp,fun p hp=>?_⟩;simp only[Dx,qj,xq,xu] at hp;rcases hp with (rfl|rfl|rfl)|hp
  ·exact w _ (by simp)
  ·exact(aau _).no
  ·exact w _ (by simp)
  ·exact hcode p hp
 rw[bf c2]
 by_cases c3:s.kind=3
 ·rw[gy c3]
  refine⟨by simp,fun p hp=>?_⟩;simp only[Dx,qj,xq,xu] at hp;rcases hp with (((rfl|rfl)|hp)|rfl)|hp
  ·exact w _ (by simp)
  ·exact(aau _).no
  ·exact((h.au c3).2 p hp).no
  ·exact w _ (by simp)
  ·exact axd s.args (fun c hc=>(h.args c hc).2) _ (gu _) p hp
 rw[bf c3]
 by_cases c4:s.kind=4
 ·rw[gy c4]
  refine⟨by simp,fun p hp=>?_⟩;simp only[qj,xq,xu] at hp;rcases hp with rfl|rfl
  ·exact w _ (by simp)
  ·exact(h.nm (Or.inr c4)).no
 rw[bf c4]
 by_cases c5:s.kind=5
 ·rw[gy c5]
  exact⟨by simp,fun p hp=>by rw[yt] at hp;rw[hp];decide⟩
 ·rw[bf c5]
  exact⟨by simp,fun p hp=>by rw[yt] at hp;rw[hp];decide⟩
theorem acv (l r:List dh) (h:∀x,x∈l->x≠ql):je (l++ql::r) ql=(l.length:Int):=by
 refine aci _ l.length _ (by simp) (by simp) (fun j hj hlt=>?_);rw[Qx hlt,zi];exact iy (h _ (o7 hlt))
theorem awm (cs:List dw) (k:dw) (s:lu) (h:aez s):lineS cs (oq (x9 s)) (x9 s) k=Dj k s:=by
 obtain⟨kd,nm,at_,au,code,args⟩:=s;have hk:=h.kind;have hw:=abv _ (adw _ h).1 (fun p hp=>((adw _ h).2 p hp).1);simp only at hk;unfold lineS
 by_cases c1:kd=1
 ·subst c1
  have e:x9 ⟨1,nm,at_,au,code,args⟩=[Je,nm]++ql::tu code:=rfl;have hc:=h.nm (Or.inl rfl);have h1:=h.ak3 (by simp) (by simp);have h2:=h.agj (by simp);simp only at hc h1 h2;obtain⟨h2,h3⟩:=h2;subst h1 h2 h3;rw[e,acv [Je,nm] _ (fun x hx=>by simp only[qj,xq,xu] at hx;rcases hx with rfl|rfl;decide;exact hc.col)];have f0:fA ([Je,nm]++ql::tu code) 0=Je:=rfl;have f1:fA ([Je,nm]++ql::tu code) 1=nm:=rfl;have f3:([Je,nm]++ql::tu code).drop 3=tu code:=rfl;rw[f0,f1,f3,bf (fun h9=>absurd h9.1 (by decide)),bf (fun h9=>absurd h9.1 (by decide)),bf (fun h9=>absurd h9.1 (by decide)),bf (fun h9=>absurd h9.1 (by decide)),bf (fun h9=>absurd h9.1 (by decide)),gy ⟨rfl,rfl⟩,aha _ h.code]
 by_cases c2:kd=2
 ·subst c2
  have e:x9 ⟨2,nm,at_,au,code,args⟩=[Fp,qo at_]++ql::tu code:=rfl;have hn:=h.X5 (by simp) (by simp);have h1:=h.at_ (Or.inl rfl);have h2:=h.agj (by simp);simp only at hn h1 h2;obtain⟨h2,h3⟩:=h2;subst hn h2 h3;rw[e,acv [Fp,qo at_] _ (fun x hx=>by simp only[qj,xq,xu] at hx;rcases hx with rfl|rfl;decide;exact(aau _).col)];have f0:fA ([Fp,qo at_]++ql::tu code) 0=Fp:=rfl;have f1:fA ([Fp,qo at_]++ql::tu code) 1=qo at_:=rfl;have f3:([Fp,qo at_]++ql::tu code).drop 3=tu code:=rfl;rw[f0,f1,f3,bf (fun h9=>absurd h9.1 (by decide)),bf (fun h9=>absurd h9.1 (by decide)),bf (fun h9=>absurd h9.1 (by decide)),bf (fun h9=>absurd h9.1 (by decide)),bf (fun h9=>absurd h9.1 (by decide)),bf (fun h9=>absurd h9.1 (by decide)),gy ⟨rfl,rfl⟩,aha _ h.code,abw _ (by unfold Oe;omega)]
 by_cases c3:kd=3
 ·subst c3
  have e:x9 ⟨3,nm,at_,au,code,args⟩=(zx::qo at_::au)++ql::vg args args.length:=by
   show [zx,qo at_]++au++[ql]++vg args args.length=_;simp
  have hn:=h.X5 (by simp) (by simp);have h1:=h.at_ (Or.inr rfl);have h2:=h.ad7 (by simp) (by simp);have ho:=h.au rfl;simp only at hn h1 h2 ho;subst hn h2
  have hpl:=acv (zx::qo at_::au) (vg args args.length) (fun x hx=>by
   simp only[qj] at hx;rcases hx with rfl|rfl|hx
   ·decide
   ·exact(aau _).col
   ·exact(ho.2 x hx).col)
  have hol:1<=au.length:=E5.2 ho.1;have hlen:(x9 ⟨3,E0,at_,au,[],args⟩).length≠1:=by rw[e];simp
  have n1:¬oq (x9 ⟨3,E0,at_,au,[],args⟩)=Fg:=fun h9=>hlen (by rw[←hw,h9];decide)
  have n2:¬oq (x9 ⟨3,E0,at_,au,[],args⟩)=Iz:=fun h9=>hlen (by rw[←hw,h9];decide)
  rw[bf (show ¬(fA (x9 ⟨3,E0,at_,au,[],args⟩) 0=Ic/\_) from fun h9=>absurd h9.1 (by rw[e];exact(by decide:¬zx=Ic)))];rw[bf (show ¬(fA (x9 ⟨3,E0,at_,au,[],args⟩) 0=Dz/\_) from fun h9=>absurd h9.1 (by rw[e];exact(by decide:¬zx=Dz)))];rw[bf (show ¬(fA (x9 ⟨3,E0,at_,au,[],args⟩) 0=Ee/\_) from fun h9=>absurd h9.1 (by rw[e];exact(by decide:¬zx=Ee)))];rw[bf (show ¬(fA (x9 ⟨3,E0,at_,au,[],args⟩) 0=Ef/\_) from fun h9=>absurd h9.1 (by rw[e];exact(by decide:¬zx=Ef)))];rw[bf (show ¬(fA (x9 ⟨3,E0,at_,au,[],args⟩) 0=Eh/\_) from fun h9=>absurd h9.1 (by rw[e];exact(by decide:¬zx=Eh)))];rw[bf (show ¬(fA (x9 ⟨3,E0,at_,au,[],args⟩) 0=Je/\_) from fun h9=>absurd h9.1 (by rw[e];exact(by decide:¬zx=Je)))];rw[bf (show ¬(fA (x9 ⟨3,E0,at_,au,[],args⟩) 0=Fp/\_) from fun h9=>absurd h9.1 (by rw[e];exact(by decide:¬zx=Fp)))];rw[bf (show ¬(fA (x9 ⟨3,E0,at_,au,[],args⟩) 0=Qg/\_) from fun h9=>absurd h9.1 (by rw[e];exact(by decide:¬zx=Qg)))];rw[bf n1,bf n2,e,hpl];have hlc:(zx::qo at_::au).length=au.length+2:=by simp
  rw[hlc];have f0:fA ((zx::qo at_::au)++ql::vg args args.length) 0=zx:=rfl;have f1:fA ((zx::qo at_::au)++ql::vg args args.length) 1=qo at_:=rfl;rw[f0,f1,gy ⟨rfl,by omega⟩,Ed,abw _ (by unfold Oe;omega)]
  have e4:wz ((zx::qo at_::au)++ql::vg args args.length) 2 (au.length+2)=au:=by
   unfold wz;simp
  have e5:((zx::qo at_::au)++ql::vg args args.length).drop (au.length+2+1)=vg args args.length:=by
   rw[show (zx::qo at_::au)++ql::vg args args.length=(zx::qo at_::(au++[ql]))++vg args args.length from by simp];exact List.drop_left' (by simp)
  rw[e4,e5,a5m _ h.args]
 by_cases c4:kd=4
 ·subst c4
  have e:x9 ⟨4,nm,at_,au,code,args⟩=[Qg,nm]:=rfl;have h1:=h.ak3 (by simp) (by simp);have h2:=h.agj (by simp);have h4:=h.ad7 (by simp) (by simp);simp only at h1 h2 h4;obtain⟨h2,h3⟩:=h2;subst h1 h2 h3 h4;rw[e];have f0:fA [Qg,nm] 0=Qg:=rfl;have f1:fA [Qg,nm] 1=nm:=rfl;rw[f0,f1,bf (fun h9=>absurd h9.1 (by decide)),bf (fun h9=>absurd h9.1 (by decide)),bf (fun h9=>absurd h9.1 (by decide)),bf (fun h9=>absurd h9.1 (by decide)),bf (fun h9=>absurd h9.1 (by decide)),bf (fun h9=>absurd h9.1 (by decide)),bf (fun h9=>absurd h9.1 (by decide)),gy ⟨rfl,rfl⟩]
 have hn:=h.X5 c1 c4;have h1:=h.ak3 c2 c3;have h2:=h.agj c3;have h4:=h.ad7 c1 c2;simp only at hn h1 h2 h4;obtain⟨h2,h3⟩:=h2;subst hn h1 h2 h3 h4
 by_cases c5:kd=5
 ·subst c5
  have e:x9 ⟨5,E0,0,[],[],[]⟩=[Fg]:=rfl;rw[e,show oq [Fg]=Fg from ag7 _];have f0:fA [Fg] 0=Fg:=rfl;rw[f0,bf (fun h9=>absurd h9.1 (by decide)),bf (fun h9=>absurd h9.1 (by decide)),bf (fun h9=>absurd h9.1 (by decide)),bf (fun h9=>absurd h9.1 (by decide)),bf (fun h9=>absurd h9.1 (by decide)),bf (fun h9=>absurd h9.1 (by decide)),bf (fun h9=>absurd h9.1 (by decide)),bf (fun h9=>absurd h9.1 (by decide)),gy rfl]
 ·obtain rfl:kd=6:=by omega
  have e:x9 ⟨6,E0,0,[],[],[]⟩=[Iz]:=rfl;rw[e,show oq [Iz]=Iz from ag7 _];have f0:fA [Iz] 0=Iz:=rfl;rw[f0,bf (fun h9=>absurd h9.1 (by decide)),bf (fun h9=>absurd h9.1 (by decide)),bf (fun h9=>absurd h9.1 (by decide)),bf (fun h9=>absurd h9.1 (by decide)),bf (fun h9=>absurd h9.1 (by decide)),bf (fun h9=>absurd h9.1 (by decide)),bf (fun h9=>absurd h9.1 (by decide)),bf (fun h9=>absurd h9.1 (by decide)),bf (by decide),gy rfl]
theorem a1d (l:List UInt8):Ro l<=21474836479:=by
 have h:=ard l l.length;rwa[Dw] at h
theorem ad8 (s:dh) : -21474836479<=Bd s/\Bd s<=21474836479:=by
 have h:=a1d (bL s);unfold Bd
 split<;>omega
theorem apb (p:dh):(Jf p).name.size<=p.size/\(0<=(Jf p).op/\(Jf p).op<=25) /\ -21474836479<=(Jf p).val/\(Jf p).val<=21474836479:=by
 unfold Jf
 cases h:(List.range 17).find? (fun i=>decide (Dh i=p)) with
 | some i =>
  have h9:=uz.1 (List.mem_of_find?_eq_some h);simp only;exact⟨jg _,by omega,by omega,by omega⟩
 | none =>
  simp only;have hn:=ad8 p;have ht:=ad8 (J7 p)
  have hz:(J7 p).size<=p.size:=by
   rw[←Ep,←Ep p];unfold J7;rw[Zg,Cc];omega
  split
  ·exact⟨jg _,by decide,by decide,by decide⟩
  split
  ·exact⟨jg _,by decide,by decide,by decide⟩
  split
  ·exact⟨hz,⟨(by decide:(0:Int)<=3),(by decide:(3:Int)<=25)⟩,(by decide:(-21474836479:Int)<=0),(by decide:(0:Int)<=21474836479)⟩
  split
  ·exact⟨jg _,⟨(by decide:(0:Int)<=25),(by decide:(25:Int)<=25)⟩,ht.1,ht.2⟩
  ·exact⟨jg _,⟨(by decide:(0:Int)<=1),(by decide:(1:Int)<=25)⟩,hn.1,hn.2⟩
theorem aib (p:dh) (h:p.size<=1048576):Len (Jf p).name.size/\I64 (Jf p).op/\I64 (Jf p).val:=by
 have h9:=apb p;unfold Len I64;omega
theorem aub (ps:List dh) (q:Nat) (hq:q<ps.length):Dk (ps.take (q+1))=Dk (ps.take q)++[Jf ps[q]]:=by
 unfold Dk;rw[Eu hq,Ig];rfl
theorem aji (ps:List dh) (v:Value) (w:cu) (hv:jc 1 16 xk 0 w v ps) (hs:∀p,p∈ps->p.size<=1048576) (hl:ps.length<=2000000):Calls Tryz.prog 22 #[v] w (fun e w'=>∃v',e=.returned v'/\jq Gp w' w.heap.size v' (Dk ps)/\Below w.heap.size w w'):=by
 obtain⟨PO,Gn⟩:∃PO:Ending->cu->Prop,PO=((fun e w'=>∃v',e=.returned v'/\jq Gp w' w.heap.size v' (Dk ps)/\Below w.heap.size w w')):=⟨_,rfl⟩;rw[←Gn];have Dc:=ak Gn;clear Gn;obtain⟨a,cap,rfl⟩:=hv.shape;have HS:=ak hv;have HZ:=ak hs;clear hv hs;have HST:Hid (jq Gp (w.alloc (.cells #[] 83)) w.heap.size (.slice (some ⟨w.heap.size,0,none⟩) 0 0) []/\Below w.heap.size w (w.alloc (.cells #[] 83))):=ak ⟨jq.start _ _ (gu _),(iq _ _).alloc (gu _) _⟩;go_enter Tryz.func22,Tryz.ntmps22;go_wp2
 go_loopg [3,9] ps.length (fun gh cv ix wr=>∃(q:Nat),q<=ps.length/\gh=ps.length-q/\ix=.int .i64 q/\Hid (jq Gp wr w.heap.size cv (Dk (ps.take q)))/\Hid (Below w.heap.size w wr))
 case atStart=>exact⟨0,jg _,by omega,rfl,ak (uh HST).1,ak (uh HST).2⟩
 case round =>
  obtain⟨q,hq,hg,rfl,HO,HB⟩:=hrel;have HG:=ak hg;clear hg HST
  by_cases hlt:q<ps.length
  ·have hbw:=uh HB
   obtain⟨_,_,Dq,_,_,hex⟩:=uh HS;simp only[qw] at Dq;obtain⟨rfl,bdn,rfl⟩:=Dq;clear bdn;obtain⟨b,o,cs,rfl,_,hb,hcs,hc,hR⟩:=hex q hlt;obtain⟨rfl,_⟩:=hR
   have z0:wr.cell? ⟨b,o+q,none⟩=some (.string ps[q]):=by
    rw[hbw.cell (p:=⟨b,_,none⟩) hb];have h9:=hc 0 (by simp);simpa using h9
   have hps:=uh HZ ps[q] (o7 hlt);have HT:=ak (aub ps q hlt);have hok:=aib ps[q] hps;have HIT:=ak (axe ps[q] wr hps);have Kq:(q:Int)<(ps.length:Int):=by omega
   have Ho:Hid (((Dk (ps.take q)).length+1)*32<=140737488355328):=ak (by unfold Dk;rw[zy,Nk];omega);generalize ps[q]=p at *;generalize Jf p=t at *;generalize Dk (ps.take q)=pre at *;clear hc hcs hex hbw hb;go_wp2_with fail;refine(uh HIT).mono ?_;rintro e w1 ⟨rfl,hb1⟩;have hA:Below w1.heap.size w1 (w1.alloc (.cells #[.int .i64 t.op,.int .i64 t.val,.string t.name] 83)):=(iq _ _).alloc (gu _) _;have hAB:Below wr.heap.size wr (w1.alloc (.cells #[.int .i64 t.op,.int .i64 t.val,.string t.name] 83)):=hb1.trans (hA.mono hb1.size);have Oh:=ak ((uh HO).below hAB);have H4:=ak ((uh HB).trans (hAB.mono (uh HB).size));have Q8:=ak (uh H4).size;clear hA hAB hb1 z0;go_wp2_with (at_builtin;go_must (refine Am Gp _ rfl _ _ rfl w.heap.size _ pre rfl (uh Oh) w1.heap.size t rfl (fun j u hu=>by rw[zu _ _ _ _ rfl];simpa[Gp] using hu) (uh Ho) (uh Q8) ?_));intro v' w5 yh hg5;have HO5:Hid (jq Gp w5 w.heap.size v' (Dk (ps.take (q+1)))):=ak (by rw[uh HT];exact yh);have Gx:=ak ((uh Oh).grown (uh H4) hg5 (uh Q8) (gu _));clear yh hg5;go_wp2
   go_roundg (ps.length-(q+1))
   case measure=>have:=uh HG;omega
   case rel=>exact⟨q+1,by omega,rfl,by go_num,HO5,Gx⟩
  ·have e:q=ps.length:=by omega
   have Kq:¬(q:Int)<(ps.length:Int):=by omega
   obtain⟨ua,uc,hu⟩:=(uh HO).slice
   have qx:Hid (PO (.returned u3) wr):=ak (by
    rw[uh Dc];have h9:=uh HO;rw[e,Dw] at h9;exact⟨u3,rfl,h9,uh HB⟩)
   clear e;go_wp2
   first|exact uh qx|(rw[←hu];exact uh qx)
theorem qm {a b:Bool} (h:a=b):Ending.returned (Value.bool a)=.returned (.bool b):=by rw[h]
theorem aar {α:Type} {p:α->Bool} {l:List α} (i:Nat) (hi:i<l.length) (h:p l[i]=false):l.all p=false:=by
 rw[List.all_eq_false];exact⟨l[i],o7 hi,by simp[h]⟩
theorem Yd {α:Type} {p:α->Bool} {l:List α} (h:∀j (hj:j<l.length),p l[j]=true):l.all p=true:=by
 rw[yc];intro x hx;obtain⟨j,hj,rfl⟩:=List.getElem_of_mem hx;exact h j hj
theorem Rk (k:dw) (code:List l9) (a1 a2 a3 a4 a5 a6 v:Value) (w:cu) (h:Ot w k a1 a2 a3 a4 a5 a6) (hv:jc 3 32 Gg 0 w v code) :
  Calls Tryz.prog 111 #[.agg #[.string k.name,a1,a2,a3,a4,a5,a6],v] w (Ans (.bool (S9 k code)) w):=by
 have HI:=ak h;obtain⟨b1,c1,rfl⟩:=h.ins.shape;obtain⟨b2,c2,rfl⟩:=h.au.shape;obtain⟨b3,c3,rfl⟩:=h.iw.shape;obtain⟨b4,c4,rfl⟩:=h.gq.shape;obtain⟨b5,c5,rfl⟩:=h.ay.shape;obtain⟨b6,c6,rfl⟩:=h.body.shape;have n4:=h.gq.Bh;clear h;have hA:Below w.heap.size w (w.alloc (.cells #[.string k.name,.slice b1 k.ins.length c1,.slice b2 k.au.length c2,.slice b3 k.iw.length c3,.slice b4 k.gq.length c4,.slice b5 k.ay.length c5,.slice b6 k.body.length c6] 50)):=(iq _ _).alloc (gu _) _;have Xp:=ak (anc 6000 code v (w.alloc (.cells #[.string k.name,.slice b1 k.ins.length c1,.slice b2 k.au.length c2,.slice b3 k.iw.length c3,.slice b4 k.gq.length c4,.slice b5 k.ay.length c5,.slice b6 k.body.length c6] 50)) (hv.stays Ad hA));have U2:jd (w.alloc (.cells #[.string k.name,.slice b1 k.ins.length c1,.slice b2 k.au.length c2,.slice b3 k.iw.length c3,.slice b4 k.gq.length c4,.slice b5 k.ay.length c5,.slice b6 k.body.length c6] 50)) w.heap.size 50 #[.string k.name,.slice b1 k.ins.length c1,.slice b2 k.au.length c2,.slice b3 k.iw.length c3,.slice b4 k.gq.length c4,.slice b5 k.ay.length c5,.slice b6 k.body.length c6]:=oh w #[.string k.name,.slice b1 k.ins.length c1,.slice b2 k.au.length c2,.slice b3 k.iw.length c3,.slice b4 k.gq.length c4,.slice b5 k.ay.length c5,.slice b6 k.body.length c6] 50;obtain⟨BX,mg⟩:∃BX:cu->Prop,∀w',BX w'↔Below (w.heap.size+1) (w.alloc (.cells #[.string k.name,.slice b1 k.ins.length c1,.slice b2 k.au.length c2,.slice b3 k.iw.length c3,.slice b4 k.gq.length c4,.slice b5 k.ay.length c5,.slice b6 k.body.length c6] 50)) w':=⟨_,fun _=>Iff.rfl⟩;have Xe:(w.alloc (.cells #[.string k.name,.slice b1 k.ins.length c1,.slice b2 k.au.length c2,.slice b3 k.iw.length c3,.slice b4 k.gq.length c4,.slice b5 k.ay.length c5,.slice b6 k.body.length c6] 50)).heap.size=w.heap.size+1:=by simp
 have Ag:Hid (∀w1,BX w1->Below w.heap.size w w1):=fun w1 h=>hA.trans (((mg w1).1 h).mono (by omega))
 have F8:Hid (∀w1 w2,BX w1->Below w1.heap.size w1 w2->BX w2):=fun w1 w2 h h2=>(mg w2).2 (((mg w1).1 h).trans (h2.mono (by have:=((mg w1).1 h).size;omega)))
 have Jo:Hid (∀w1,BX w1->w1.cell? ⟨w.heap.size,0,none⟩=some (.string k.name)/\w1.cell? ⟨w.heap.size,1,none⟩=some (.slice b1 k.ins.length c1)/\w1.cell? ⟨w.heap.size,2,none⟩=some (.slice b2 k.au.length c2)/\w1.cell? ⟨w.heap.size,3,none⟩=some (.slice b3 k.iw.length c3)/\w1.cell? ⟨w.heap.size,4,none⟩=some (.slice b4 k.gq.length c4)/\w1.cell? ⟨w.heap.size,5,none⟩=some (.slice b5 k.ay.length c5)/\w1.cell? ⟨w.heap.size,6,none⟩=some (.slice b6 k.body.length c6)):=fun w1 h=>⟨(U2.below ((mg w1).1 h) (by omega)).cell (i:=0) (v:=.string k.name) rfl,(U2.below ((mg w1).1 h) (by omega)).cell (i:=1) (v:=.slice b1 k.ins.length c1) rfl,(U2.below ((mg w1).1 h) (by omega)).cell (i:=2) (v:=.slice b2 k.au.length c2) rfl,(U2.below ((mg w1).1 h) (by omega)).cell (i:=3) (v:=.slice b3 k.iw.length c3) rfl,(U2.below ((mg w1).1 h) (by omega)).cell (i:=4) (v:=.slice b4 k.gq.length c4) rfl,(U2.below ((mg w1).1 h) (by omega)).cell (i:=5) (v:=.slice b5 k.ay.length c5) rfl,(U2.below ((mg w1).1 h) (by omega)).cell (i:=6) (v:=.slice b6 k.body.length c6) rfl⟩
 have HX5:Hid (∀w1,BX w1->w.heap.size+1<=w1.heap.size):=fun w1 h=>by have:=((mg w1).1 h).size;omega
 have HX0:Hid (BX (w.alloc (.cells #[.string k.name,.slice b1 k.ins.length c1,.slice b2 k.au.length c2,.slice b3 k.iw.length c3,.slice b4 k.gq.length c4,.slice b5 k.ay.length c5,.slice b6 k.body.length c6] 50))):=(mg _).2 (iq _ _);have HVR:=ak (fun w' (hb:Below w.heap.size w w')=>Py k _ _ _ (.slice b4 k.gq.length c4) (.slice b5 k.ay.length c5) (.slice b6 k.body.length c6) w' ((uh HI).stays hb).ins ((uh HI).stays hb).au ((uh HI).stays hb).iw (uh HI).sum);have hx:=hv;obtain⟨av,cv,rfl,_,hn,hx⟩:=hx;unfold Len at hn;have HVX:=ak hx;have HM:Hid (S9 k code=(scM 6000 code&&code.all (Vk k))):=rfl;generalize S9 k code=R at *;clear hA U2 mg hx hv Xe
 cases hs:scM 6000 code
 ·rw[hs] at Xp HM
  have HR:Hid (R=false):=(uh HM).trans (Aw _);clear HM hs;go_enter Tryz.func111,Tryz.ntmps111;go_wp2_with fail;refine(uh Xp).mono ?_;rintro e w1 ⟨rfl,hb1⟩;have HB:=ak (uh Ag _ (uh F8 _ _ (uh HX0) hb1));clear hb1;go_wp2;go_ret;exact⟨qm (uh HR).symm,uh HB⟩
 rw[hs] at Xp HM;have HR:Hid (R=code.all (Vk k)):=(uh HM).trans (Ak _);clear HM hs;go_enter Tryz.func111,Tryz.ntmps111;go_wp2_with fail;refine(uh Xp).mono ?_;rintro e w1 ⟨rfl,hb1⟩;have ay6:=ak (uh F8 _ _ (uh HX0) hb1);clear hb1;go_wp2
 go_loopg [12] code.length (fun g i' wr=>∃(i:Nat),i<=code.length/\g=code.length-i/\i'=.int .i64 i/\(∀j (hj:j<code.length),j<i->Vk k code[j]=true)/\BX wr)
 case atStart=>exact⟨0,jg _,by omega,rfl,fun j _ hj=>absurd hj (yu _),uh ay6⟩
 case round =>
  obtain⟨i,hi,hg,rfl,hno,hbx⟩:=hrel;rename cu=>wr;have HG:=ak hg;have Bo:=ak hno;have D5:=ak hbx;have hsz:=uh HX5 _ hbx;clear hg hno
  by_cases hlt:i<code.length
  ·obtain⟨b,o,cs,Fe,_,hb,hcs,hc0,hR⟩:=uh HVX i hlt
   subst Fe;have hc:∀j (hj:j<cs.length),wr.cell? ⟨b,o+i*3+j,none⟩=some cs[j]:=fun j hj=>by rw[(uh Ag _ hbx).cell (p:=⟨b,_,none⟩) hb];exact hc0 j hj
   obtain⟨rfl,hsn,ho,hvl⟩:=hR;have q0:=hc 0 (by simp);have q1:=hc 1 (by simp);have q2:=hc 2 (by simp);simp only[ji,og,ou] at q0 q1 q2;have hbz:b<wr.heap.size:=qg hb (uh Ag _ hbx).size;have HIT:Hid (Vk k code[i]=(!(decide (20<code[i].op)&&code[i].op != 25)&&(code[i].op != 3||inB (varsOf k) code[i].name)&&(code[i].op != 25||decide (0<=code[i].val/\code[i].val<(k.gq.length:Int))))):=rfl;have HN:Hid (Vk k code[i]=false->R=false):=fun h=>(uh HR).trans (aar i hlt h)
   have HY:Hid (Vk k code[i]=true->∀j (hj:j<code.length),j<i+1->Vk k code[j]=true):=fun h j hj hji=>by
    by_cases e:j=i
    ·subst e;exact h
    ·exact uh Bo j hj (by omega)
   have HB4:Hid (∀w',Below wr.heap.size wr w'->BX w'):=fun w' h=>uh F8 _ _ hbx h
   have hal:Below wr.heap.size wr (wr.alloc (.cells #[.int .i64 code[i].op,.int .i64 code[i].val,.string code[i].name] 83)):=(iq _ _).alloc (gu _) _;obtain⟨wq,hwq⟩:=o8 (wr.alloc (.cells #[.int .i64 code[i].op,.int .i64 code[i].val,.string code[i].name] 83));have hBI:jd wq wr.heap.size 83 #[.int .i64 code[i].op,.int .i64 code[i].val,.string code[i].name]:=by rw[hwq];exact oh _ _ _
   rw[←hwq] at hal;have Cm:=ak hal;have hbq:=uh F8 _ _ hbx hal;have Qz:=ak hbq;obtain⟨s0,s1,s2,s3,s4,s5,s6⟩:=uh Jo wq hbq;have y0:=hBI.cell (i:=0) (v:=.int .i64 code[i].op) rfl;have y1:=hBI.cell (i:=1) (v:=.int .i64 code[i].val) rfl;have y2:=hBI.cell (i:=2) (v:=.string code[i].name) rfl;have HBI:=ak hBI;have hlt':(i:Int)<(code.length:Int):=by omega
   generalize Vk k code[i]=mi at *;clear hc hc0 hcs hsn ho hvl hal hbq hBI hbx;generalize code[i].op=op at *;generalize code[i].val=vl at *;generalize code[i].name=nm at *;have HQB:Hid (Below w.heap.size w wq):=uh Ag _ (uh Qz)
   have HQn:Hid (∀n,BX (wq.drewN n)/\Below w.heap.size w (wq.drewN n)):=fun n=>by
    have h:BX (wq.drewN n):=uh F8 _ _ (uh Qz) ⟨rfl,rfl,rfl,gu _,fun _ _=>rfl⟩;exact⟨h,uh Ag _ h⟩
   by_cases hA:20<op/\op≠25
   ·have e1:decide (20<op)=true:=jf hA.1
    have e2:(op != 25)=true:=by simpa using hA.2
    have HF:=ak (uh HN (by rw[uh HIT,e1,e2];rfl));clear hA HN HY HIT;have Wj:=HQB;rw[hwq] at Wj;clear hwq;go_wp2;go_ret;exact⟨qm (uh HF).symm,uh Wj⟩
   have e12:(decide (20<op)&&op != 25)=false:=by
    by_cases h:20<op
    ·have:op=25:=by omega
     simp[this]
    ·simp[h]
   rw[e12,Bool.not_false,Ak] at HIT
   by_cases h3:op=3
   ·have y3:(op==3)=true:=by simp[h3]
    have y3':(op != 3)=false:=by simp[h3]
    have y5:(op != 25)=true:=by simp[h3]
    have y5':(op==25)=false:=by simp[h3]
    have e1:decide (20<op)=false:=iy (by omega);rw[y3',y5,Bool.false_or,Bool.true_or,Bool.and_true] at HIT
    have HVd:Hid (Calls Tryz.prog 81 #[.agg #[.string k.name,.slice b1 k.ins.length c1,.slice b2 k.au.length c2,.slice b3 k.iw.length c3,.slice b4 k.gq.length c4,.slice b5 k.ay.length c5,.slice b6 k.body.length c6]] wq.drew fun e w''=>∃a c,e=.returned (.slice a (varsOf k).length c)/\BX w''/\Hid (Calls Tryz.prog 112 #[.slice a (varsOf k).length c,.string nm] w'' fun e w3=>e=.returned (.bool (inB (varsOf k) nm))/\BX w3/\w3.cell? ⟨wr.heap.size,0,none⟩=some (.int .i64 op)/\w3.cell? ⟨wr.heap.size,2,none⟩=some (.string nm)/\w3.cell? ⟨w.heap.size,0,none⟩=some (.string k.name)/\w3.cell? ⟨w.heap.size,1,none⟩=some (.slice b1 k.ins.length c1)/\w3.cell? ⟨w.heap.size,2,none⟩=some (.slice b2 k.au.length c2)/\w3.cell? ⟨w.heap.size,3,none⟩=some (.slice b3 k.iw.length c3)/\w3.cell? ⟨w.heap.size,4,none⟩=some (.slice b4 k.gq.length c4)/\w3.cell? ⟨w.heap.size,5,none⟩=some (.slice b5 k.ay.length c5)/\w3.cell? ⟨w.heap.size,6,none⟩=some (.slice b6 k.body.length c6))/\w''.cell? ⟨wr.heap.size,0,none⟩=some (.int .i64 op)/\w''.cell? ⟨wr.heap.size,2,none⟩=some (.string nm)/\w''.cell? ⟨w.heap.size,0,none⟩=some (.string k.name)/\w''.cell? ⟨w.heap.size,1,none⟩=some (.slice b1 k.ins.length c1)/\w''.cell? ⟨w.heap.size,2,none⟩=some (.slice b2 k.au.length c2)/\w''.cell? ⟨w.heap.size,3,none⟩=some (.slice b3 k.iw.length c3)/\w''.cell? ⟨w.heap.size,4,none⟩=some (.slice b4 k.gq.length c4)/\w''.cell? ⟨w.heap.size,5,none⟩=some (.slice b5 k.ay.length c5)/\w''.cell? ⟨w.heap.size,6,none⟩=some (.slice b6 k.body.length c6)):=by
     have hdq:Below wq.heap.size wq wq.drew:=(iq _ wq).drew;refine(uh HVR wq.drew ((uh HQB).trans (hdq.mono (uh HQB).size))).mono ?_;rintro e w'' ⟨vv,rfl,hVS,hb1⟩;have h8:Below wq.heap.size wq w'':=hdq.trans hb1;have hx8:=uh F8 _ _ (uh Qz) h8;obtain⟨a,c,rfl⟩:=hVS.shape;have u0:w''.cell? ⟨wr.heap.size,0,none⟩=some (.int .i64 op):=by rw[h8.cell (p:=⟨wr.heap.size,_,none⟩) (uh HBI).lt];exact y0
     have u2:w''.cell? ⟨wr.heap.size,2,none⟩=some (.string nm):=by rw[h8.cell (p:=⟨wr.heap.size,_,none⟩) (uh HBI).lt];exact y2
     refine⟨a,c,rfl,hx8,?_,u0,u2,uh Jo w'' hx8⟩;show Calls Tryz.prog 112 _ w'' _;refine(adi (varsOf k) _ nm w'' hVS).mono ?_;rintro e w3 ⟨rfl,rfl⟩;exact⟨rfl,hx8,u0,u2,uh Jo _ hx8⟩
    have hop:op=3:=h3;clear h3 hA e12;generalize inB (varsOf k) nm=ib at *;generalize (varsOf k).length=vl2 at *
    cases ib
    ·have HF:=ak (uh HN (uh HIT))
     clear HN HY HIT hop;go_wp2_with fail;rw[←hwq];clear hwq
     go_region_held3 (fun w'=>w'.cell? ⟨wr.heap.size,0,none⟩=some (.int .i64 op)/\w'.cell? ⟨wr.heap.size,2,none⟩=some (.string nm)/\w'.cell? ⟨w.heap.size,0,none⟩=some (.string k.name)/\w'.cell? ⟨w.heap.size,1,none⟩=some (.slice b1 k.ins.length c1)/\w'.cell? ⟨w.heap.size,2,none⟩=some (.slice b2 k.au.length c2)/\w'.cell? ⟨w.heap.size,3,none⟩=some (.slice b3 k.iw.length c3)/\w'.cell? ⟨w.heap.size,4,none⟩=some (.slice b4 k.gq.length c4)/\w'.cell? ⟨w.heap.size,5,none⟩=some (.slice b5 k.ay.length c5)/\w'.cell? ⟨w.heap.size,6,none⟩=some (.slice b6 k.body.length c6)) (go_keep) (first|(go_at_call 81;refine(uh HVd).mono ?_;rintro e w5 ⟨a5,c5',rfl,hB5,HI5,t0,t1,t2,t3,t4,t5,t6,t7,t8⟩;clear HVd)|(go_at_call 112;refine(uh HI5).mono ?_;rintro e w6 ⟨rfl,hB6,z0,z1,z2,z3,z4,z5,z6,z7,z8⟩;clear HI5))
     have Wp:=ak (uh Ag _ hB6);go_wp2;go_ret;exact⟨qm (uh HF).symm,uh Wp⟩
    ·have Lr:=ak (uh HY (uh HIT))
     clear HN HY HIT hop;go_wp2_with fail;rw[←hwq];clear hwq
     go_region_held3 (fun w'=>w'.cell? ⟨wr.heap.size,0,none⟩=some (.int .i64 op)/\w'.cell? ⟨wr.heap.size,2,none⟩=some (.string nm)/\w'.cell? ⟨w.heap.size,0,none⟩=some (.string k.name)/\w'.cell? ⟨w.heap.size,1,none⟩=some (.slice b1 k.ins.length c1)/\w'.cell? ⟨w.heap.size,2,none⟩=some (.slice b2 k.au.length c2)/\w'.cell? ⟨w.heap.size,3,none⟩=some (.slice b3 k.iw.length c3)/\w'.cell? ⟨w.heap.size,4,none⟩=some (.slice b4 k.gq.length c4)/\w'.cell? ⟨w.heap.size,5,none⟩=some (.slice b5 k.ay.length c5)/\w'.cell? ⟨w.heap.size,6,none⟩=some (.slice b6 k.body.length c6)) (go_keep) (first|(go_at_call 81;refine(uh HVd).mono ?_;rintro e w5 ⟨a5,c5',rfl,hB5,HI5,t0,t1,t2,t3,t4,t5,t6,t7,t8⟩;clear HVd)|(go_at_call 112;refine(uh HI5).mono ?_;rintro e w6 ⟨rfl,hB6,z0,z1,z2,z3,z4,z5,z6,z7,z8⟩;clear HI5))
     have Wp:=ak hB6;go_wp2
     go_roundg (code.length-(i+1))
     case measure=>have:=uh HG;omega
     case rel=>exact⟨i+1,by omega,rfl,by go_num,uh Lr,uh Wp⟩
   have y3:(op==3)=false:=by simp[h3]
   have y3':(op != 3)=true:=by simp[h3]
   rw[y3',Bool.true_or,Ak] at HIT;clear h3
   by_cases Rt:op=25
   ·have y5:(op==25)=true:=by simp[Rt]
    have y5':(op != 25)=false:=by simp[Rt]
    have e1:decide (20<op)=true:=jf (by omega);rw[y5',Bool.false_or] at HIT;clear Rt hA e12
    by_cases hv0:vl<0
    ·have f1:decide (vl<0)=true:=jf hv0
     have HF:=ak (uh HN (by rw[uh HIT,Nh];omega));clear HN HY HIT;go_wp2_with fail;rw[←hwq];clear hwq;go_quiet ((fail));go_wp2;go_ret;exact⟨qm (uh HF).symm,(uh HQn _).2⟩
    have f1:decide (vl<0)=false:=iy hv0
    by_cases hvm:(k.gq.length:Int)<=vl
    ·have f2:decide ((k.gq.length:Int)<=vl)=true:=jf hvm
     have HF:=ak (uh HN (by rw[uh HIT,Nh];omega));clear HN HY HIT;go_wp2_with fail;rw[←hwq];clear hwq;go_quiet ((fail));go_wp2;go_ret;exact⟨qm (uh HF).symm,(uh HQn _).2⟩
    ·have f2:decide ((k.gq.length:Int)<=vl)=false:=iy hvm
     have Lr:=ak (uh HY (by rw[uh HIT,D8];omega));clear HN HY HIT;go_wp2_with fail;rw[←hwq];clear hwq;go_quiet ((fail));go_wp2
     go_roundg (code.length-(i+1))
     case measure=>have:=uh HG;omega
     case rel=>exact⟨i+1,by omega,rfl,by go_num,uh Lr,(uh HQn _).1⟩
   ·have y5:(op==25)=false:=by simp[Rt]
    have y5':(op != 25)=true:=by simp[Rt]
    have e1:decide (20<op)=false:=iy (by omega);rw[y5',Bool.true_or] at HIT;have Lr:=ak (uh HY (uh HIT));clear HN HY HIT Rt hA e12;go_wp2_with fail;rw[←hwq];clear hwq;go_quiet ((fail));go_wp2
    go_roundg (code.length-(i+1))
    case measure=>have:=uh HG;omega
    case rel=>exact⟨i+1,by omega,rfl,by go_num,uh Lr,(uh HQn _).1⟩
  ·have e:i=code.length:=by omega
   subst e;have HF:Hid (R=true):=(uh HR).trans (Yd (fun j hj=>uh Bo j hj hj));have HB:=ak (uh Ag _ hbx);go_wp2;go_ret;exact⟨qm (uh HF).symm,uh HB⟩
end Go.Proofs.YtfeejeflmcapoaaGreatDoor
