import Derived.Test.YtfeejeflmcapoaaGreatDoorRG1
import Derived.Test.YtfeejeflmcapoaaGreatDoorRS3
import Derived.Test.YtfeejeflmcapoaaGreatDoorEvI
import Derived.Deep.RegionHeld3
import Derived.Deep.QuietTactic
import Derived.BigQuiet
set_option linter.unusedSimpArgs false
set_option linter.unusedVariables false
set_option maxHeartbeats 4000000
namespace Go.Proofs.YtfeejeflmcapoaaGreatDoor
open Go.RowKit
def Dx (ps:List dh):List ku:=ps.map Jg
def abm (ps:List dh):List (List ku):=if ps=[] then [] else (cutAt Cb ps).map Dx
def K0 (nm:dh):dw:=⟨nm,[],[],[],[],[],[]⟩
def fA (f:List dh) (i:Nat):dh:=f.getD i E0
def af8 (cs:List dw) (nm:dh) (i:Nat):Bool:=match cs[i]? with|some k=>decide (k.name=nm)|none=>false
def af7 (cs:List dw) (nm:dh):Option Nat:=(List.range (cs.length-1)).find? (af8 cs nm)
def Dw (k:dw) (s:lu):dw:={ k with body:=k.body++[s] }
def lineS (cs:List dw) (cu:dh) (f:List dh) (k:dw):dw :=
 if fA f 0=Ik∧f.length=3 then { k with ins:=k.ins++[⟨fA f 1,if fA f 2=aaf then 1 else 2⟩] }
 else if fA f 0=Ee∧f.length=3 then { k with ak:=k.ak++[⟨fA f 1,if fA f 2=aaf then 1 else 2⟩] }
 else if fA f 0=Eo∧f.length=2 then { k with iq:=k.iq++[fA f 1] }
 else if fA f 0=Ep∧f.length=2 then { k with eu:=k.eu++[Bo (fA f 1)] }
 else if fA f 0=Es∧f.length=2 then (match af7 cs (fA f 1) with|some i=>{ k with au:=k.au++[(i:Int)] }|none=>k)
 else if fA f 0=Jf∧jd f ou=2 then Dw k ⟨1,fA f 1,0,[],Dx (f.drop 3),[]⟩
 else if fA f 0=F8∧jd f ou=2 then Dw k ⟨2,E0,Bo (fA f 1),[],Dx (f.drop 3),[]⟩
 else if fA f 0=Qn∧f.length=2 then Dw k ⟨4,fA f 1,0,[],[],[]⟩
 else if cu=Cj then Dw k ⟨5,E0,0,[],[],[]⟩
 else if cu=Fz then Dw k ⟨6,E0,0,[],[],[]⟩
 else if fA f 0=Ac∧2<jd f ou then Dw k ⟨3,E0,Bo (fA f 1),vw f 2 (jd f ou).toNat,[],abm (f.drop ((jd f ou).toNat+1))⟩
 else k
def upL (cs:List dw) (g:dw->dw):List dw:=match cs.getLast? with|some k=>cs.dropLast++[g k]|none=>[]
theorem Ae (a:List dw) (k:dw) (g:dw->dw):upL (a++[k]) g=a++[g k]:=by
 unfold upL;simp
theorem ak5 (g:dw->dw):upL [] g=[]:=rfl
def Iz (cs:List dw) (f:List dh):List dw:=if fA f 0=vg∧f.length=2 then cs++[K0 (fA f 1)] else cs
def stepS (cs:List dw) (cu:dh):List dw:=upL (Iz cs (wordsOf 32 cu)) (lineS (Iz cs (wordsOf 32 cu)) cu (wordsOf 32 cu))
def Ns (t:dh):List dw:=(wordsOf 10 t).foldl stepS []
def Ny (s:dh):Prop:=∀b,b∈bL s->b≠32∧b≠10∧b≠44∧b≠58
theorem Ny.no {s:dh} (h:Ny s):32∉bL s∧10∉bL s:=⟨fun h9=>(h _ h9).1 rfl,fun h9=>(h _ h9).2.1 rfl⟩
theorem Ny.col {s:dh} (h:Ny s):s≠ou:=fun e=>(h 58 (by rw[e];decide)).2.2.2 rfl
theorem aaz (v:Int):Ny (qm v):=fun b hb=>⟨fun e=>ad8 v 32 (by decide) (by decide) (e▸hb),fun e=>ad8 v 10 (by decide) (by decide) (e▸hb),fun e=>ad8 v 44 (by decide) (by decide) (e▸hb),fun e=>ad8 v 58 (by decide) (by decide) (e▸hb)⟩
structure ae1 (s:lu):Prop where
 kind:1<=s.kind∧s.kind<=6
 nm:s.kind=1∨s.kind=4->Ny s.name
 Yb:s.kind≠1->s.kind≠4->s.name=E0
 at_:s.kind=2∨s.kind=3->0<=s.at_∧s.at_<=1000
 ak6:s.kind≠2->s.kind≠3->s.at_=0
 agl:s.kind≠3->s.ak=[]∧s.args=[]
 ad9:s.kind≠1->s.kind≠2->s.code=[]
 code:∀t,t∈s.code->S9 t
 ak:s.kind=3->s.ak≠[]∧∀x,x∈s.ak->Ny x
 args:∀c,c∈s.args->c≠[]∧∀t,t∈c->S9 t
theorem ahc (c:List ku) (h:∀t,t∈c->S9 t):Dx (tu c)=c:=by
 unfold Dx tu;rw[List.map_map];conv=>rhs;rw[←List.map_id c]
 exact List.map_congr_left (fun t ht=>auc t (h t ht))
theorem aiw (c:List ku) (h:∀t,t∈c->S9 t):∀p,p∈tu c->(32∉bL p∧10∉bL p)∧p≠Cb∧p≠ou:=fun p hp=>by
 obtain⟨t,ht,rfl⟩:=List.mem_map.1 hp;exact a5w t (h t ht)
theorem apd (Ai:List (List ku)) (h:∀c,c∈Ai->∀t,t∈c->S9 t):∀i,i<=Ai.length->∀r:List dh,Cb∉r->1<=i->cutAt Cb (uy Ai i++r)=((Ai.take (i-1)).map tu)++[tu (Ai.getD (i-1) [])++r]:=by
 intro i
 induction i with
 | zero=>intro _ r _ h1;omega
 | succ i ih =>
  intro hi r hr _;have h2:Ai.getD i []=Ai[i]'(by omega):=by rw[yw,jy (by omega)];rfl
  have hc:Cb∉tu (Ai.getD i []):=fun h9=>by
   rw[h2] at h9;exact(aiw _ (h _ (pz _)) _ h9).2.1 rfl
  have hcr:Cb∉tu (Ai.getD i [])++r:=fun h9=>(Ec.1 h9).elim hc hr
  rw[uy]
  by_cases c:i=0
  ·subst c
   simp only[uy,gu,Gu,Bh,Nat.sub_self,Np,Gf];exact Ur _ _ hcr
  ·rw[ay c,show uy Ai i++[Cb]++tu (Ai.getD i [])++r=uy Ai i++(Cb::(tu (Ai.getD i [])++r)) from by simp]
   have h9:=ih (by omega) [] (by simp) (by omega);rw[Az] at h9
   have e1:∀(a b:List dh),cutAt Cb (a++Cb::b)=(cutAt Cb a)++cutAt Cb b:=by
    intro a b
    induction a with
    | nil=>simp[cutAt]
    | cons x a iha =>
     rw[Fe,cutAt,cutAt]
     by_cases hx:x=Cb
     ·rw[gu hx,gu hx,iha];rfl
     ·rw[ay hx,ay hx,iha]
      have e9:=Uh Cb a;rw[e9];rfl
   rw[e1,h9,Ur _ _ hcr,Az]
   have e2:(Ai.take (i+1-1)).map tu=(Ai.take (i-1)).map tu++[tu (Ai.getD (i-1) [])]:=by
    obtain⟨j,rfl⟩:∃j,i=j+1:=⟨i-1,by omega⟩;have h3:Ai.getD j []=Ai[j]'(by omega):=by rw[yw,jy (by omega)];rfl
    simp only[Nat.add_sub_cancel];rw[Fb (by omega),Il,h3];rfl
   rw[e2];simp
theorem a1f (Ai:List (List ku)) (h:∀c,c∈Ai->∀t,t∈c->S9 t):∀i,1<=i->i<=Ai.length->(cutAt Cb (uy Ai i)).map Dx=Ai.take i:=by
 intro i h1 hi;have h9:=apd Ai h i hi [] (by simp) h1;rw[Az] at h9;rw[h9,Il,List.map_map];obtain⟨j,rfl⟩:∃j,i=j+1:=⟨i-1,by omega⟩;have h3:Ai.getD j []=Ai[j]'(by omega):=by rw[yw,jy (by omega)];rfl
 simp only[Nat.add_sub_cancel,Ap,Gf,Az];rw[Fb (by omega),h3,ahc _ (h _ (pz _))];congr 1;conv=>rhs;rw[←List.map_id (Ai.take j)]
 exact List.map_congr_left (fun c hc=>ahc c (h c (List.mem_of_mem_take hc)))
theorem a5x (Ai:List (List ku)) (h:∀c,c∈Ai->c≠[]∧∀t,t∈c->S9 t):abm (uy Ai Ai.length)=Ai:=by
 unfold abm
 by_cases e:Ai=[]
 ·subst e
  rfl
 ·have hl:1<=Ai.length:=Bg.2 e
  rw[ay (agd Ai (fun c hc=>(h c hc).1) _ hl (gq _)),a1f Ai (fun c hc=>(h c hc).2) _ hl (gq _),Eb]
theorem axj (Ai:List (List ku)) (h:∀c,c∈Ai->∀t,t∈c->S9 t):∀i,i<=Ai.length->∀p,p∈uy Ai i->32∉bL p∧10∉bL p:=by
 intro i
 induction i with
 | zero=>intro _ p hp;cases hp
 | succ i ih =>
  intro hi p hp;have h2:Ai.getD i []=Ai[i]'(by omega):=by rw[yw,jy (by omega)];rfl
  rw[uy,h2] at hp;rcases Ec.1 hp with h9|h9
  ·rcases Ec.1 h9 with h8|h8
   ·exact ih (by omega) p h8
   ·split at h8
    ·cases h8
    ·rw[yj] at h8;rw[h8];decide
  ·exact(aiw _ (h _ (pz _)) p h9).1
theorem ady (s:lu) (h:ae1 s):xu s≠[]∧∀p,p∈xu s->32∉bL p∧10∉bL p:=by
 have w:∀p,p∈[Jf,F8,Ac,Qn,Cj,Fz,ou]->32∉bL p∧10∉bL p:=by decide
 have hk:=h.kind;have hcode:=fun p hp=>(aiw s.code h.code p hp).1
 unfold xu
 by_cases c1:s.kind=1
 ·rw[gu c1]
  refine⟨by simp,fun p hp=>?_⟩;simp only[Ec,ql,xg,xk] at hp;rcases hp with (rfl|rfl|rfl)|hp
  ·exact w _ (by simp)
  ·exact(h.nm (Or.inl c1)).no
  ·exact w _ (by simp)
  ·exact hcode p hp
 rw[ay c1]
 by_cases c2:s.kind=2
 ·rw[gu c2]
  refine⟨by simp,fun p hp=>?_⟩;simp only[Ec,ql,xg,xk] at hp;rcases hp with (rfl|rfl|rfl)|hp
  ·exact w _ (by simp)
  ·exact(aaz _).no
  ·exact w _ (by simp)
  ·exact hcode p hp
 rw[ay c2]
 by_cases c3:s.kind=3
 ·rw[gu c3]
  refine⟨by simp,fun p hp=>?_⟩;simp only[Ec,ql,xg,xk] at hp;rcases hp with (((rfl|rfl)|hp)|rfl)|hp
  ·exact w _ (by simp)
  ·exact(aaz _).no
  ·exact((h.ak c3).2 p hp).no
  ·exact w _ (by simp)
  ·exact axj s.args (fun c hc=>(h.args c hc).2) _ (gq _) p hp
 rw[ay c3]
 by_cases c4:s.kind=4
 ·rw[gu c4]
  refine⟨by simp,fun p hp=>?_⟩;simp only[ql,xg,xk] at hp;rcases hp with rfl|rfl
  ·exact w _ (by simp)
  ·exact(h.nm (Or.inr c4)).no
 rw[ay c4]
 by_cases c5:s.kind=5
 ·rw[gu c5]
  exact⟨by simp,fun p hp=>by rw[yj] at hp;rw[hp];decide⟩
 ·rw[ay c5]
  exact⟨by simp,fun p hp=>by rw[yj] at hp;rw[hp];decide⟩
theorem acz (l r:List dh) (h:∀x,x∈l->x≠ou):jd (l++ou::r) ou=(l.length:Int):=by
 refine aco _ l.length _ (by simp) (by simp) (fun j hj hlt=>?_);rw[Rh hlt,zk];exact iw (h _ (pz hlt))
theorem awp (cs:List dw) (k:dw) (s:lu) (h:ae1 s):lineS cs (oh (xu s)) (xu s) k=Dw k s:=by
 obtain⟨kd,nm,at_,ak,code,args⟩:=s;have hk:=h.kind;have hw:=aby _ (ady _ h).1 (fun p hp=>((ady _ h).2 p hp).1);simp only at hk;unfold lineS
 by_cases c1:kd=1
 ·subst c1
  have e:xu ⟨1,nm,at_,ak,code,args⟩=[Jf,nm]++ou::tu code:=rfl;have hc:=h.nm (Or.inl rfl);have h1:=h.ak6 (by simp) (by simp);have h2:=h.agl (by simp);simp only at hc h1 h2;obtain⟨h2,h3⟩:=h2;subst h1 h2 h3;rw[e,acz [Jf,nm] _ (fun x hx=>by simp only[ql,xg,xk] at hx;rcases hx with rfl|rfl;decide;exact hc.col)];have f0:fA ([Jf,nm]++ou::tu code) 0=Jf:=rfl;have f1:fA ([Jf,nm]++ou::tu code) 1=nm:=rfl;have f3:([Jf,nm]++ou::tu code).drop 3=tu code:=rfl;rw[f0,f1,f3,ay (fun h9=>absurd h9.1 (by decide)),ay (fun h9=>absurd h9.1 (by decide)),ay (fun h9=>absurd h9.1 (by decide)),ay (fun h9=>absurd h9.1 (by decide)),ay (fun h9=>absurd h9.1 (by decide)),gu ⟨rfl,rfl⟩,ahc _ h.code]
 by_cases c2:kd=2
 ·subst c2
  have e:xu ⟨2,nm,at_,ak,code,args⟩=[F8,qm at_]++ou::tu code:=rfl;have hn:=h.Yb (by simp) (by simp);have h1:=h.at_ (Or.inl rfl);have h2:=h.agl (by simp);simp only at hn h1 h2;obtain⟨h2,h3⟩:=h2;subst hn h2 h3;rw[e,acz [F8,qm at_] _ (fun x hx=>by simp only[ql,xg,xk] at hx;rcases hx with rfl|rfl;decide;exact(aaz _).col)];have f0:fA ([F8,qm at_]++ou::tu code) 0=F8:=rfl;have f1:fA ([F8,qm at_]++ou::tu code) 1=qm at_:=rfl;have f3:([F8,qm at_]++ou::tu code).drop 3=tu code:=rfl;rw[f0,f1,f3,ay (fun h9=>absurd h9.1 (by decide)),ay (fun h9=>absurd h9.1 (by decide)),ay (fun h9=>absurd h9.1 (by decide)),ay (fun h9=>absurd h9.1 (by decide)),ay (fun h9=>absurd h9.1 (by decide)),ay (fun h9=>absurd h9.1 (by decide)),gu ⟨rfl,rfl⟩,ahc _ h.code,abz _ (by unfold Oh;omega)]
 by_cases c3:kd=3
 ·subst c3
  have e:xu ⟨3,nm,at_,ak,code,args⟩=(Ac::qm at_::ak)++ou::uy args args.length:=by
   show [Ac,qm at_]++ak++[ou]++uy args args.length=_;simp
  have hn:=h.Yb (by simp) (by simp);have h1:=h.at_ (Or.inr rfl);have h2:=h.ad9 (by simp) (by simp);have ho:=h.ak rfl;simp only at hn h1 h2 ho;subst hn h2
  have hpl:=acz (Ac::qm at_::ak) (uy args args.length) (fun x hx=>by
   simp only[ql] at hx;rcases hx with rfl|rfl|hx
   ·decide
   ·exact(aaz _).col
   ·exact(ho.2 x hx).col)
  have hol:1<=ak.length:=Bg.2 ho.1;have hlen:(xu ⟨3,E0,at_,ak,[],args⟩).length≠1:=by rw[e];simp
  have n1:¬oh (xu ⟨3,E0,at_,ak,[],args⟩)=Cj:=fun h9=>hlen (by rw[←hw,h9];decide)
  have n2:¬oh (xu ⟨3,E0,at_,ak,[],args⟩)=Fz:=fun h9=>hlen (by rw[←hw,h9];decide)
  rw[ay (show ¬(fA (xu ⟨3,E0,at_,ak,[],args⟩) 0=Ik∧_) from fun h9=>absurd h9.1 (by rw[e];exact(by decide:¬Ac=Ik)))];rw[ay (show ¬(fA (xu ⟨3,E0,at_,ak,[],args⟩) 0=Ee∧_) from fun h9=>absurd h9.1 (by rw[e];exact(by decide:¬Ac=Ee)))];rw[ay (show ¬(fA (xu ⟨3,E0,at_,ak,[],args⟩) 0=Eo∧_) from fun h9=>absurd h9.1 (by rw[e];exact(by decide:¬Ac=Eo)))];rw[ay (show ¬(fA (xu ⟨3,E0,at_,ak,[],args⟩) 0=Ep∧_) from fun h9=>absurd h9.1 (by rw[e];exact(by decide:¬Ac=Ep)))];rw[ay (show ¬(fA (xu ⟨3,E0,at_,ak,[],args⟩) 0=Es∧_) from fun h9=>absurd h9.1 (by rw[e];exact(by decide:¬Ac=Es)))];rw[ay (show ¬(fA (xu ⟨3,E0,at_,ak,[],args⟩) 0=Jf∧_) from fun h9=>absurd h9.1 (by rw[e];exact(by decide:¬Ac=Jf)))];rw[ay (show ¬(fA (xu ⟨3,E0,at_,ak,[],args⟩) 0=F8∧_) from fun h9=>absurd h9.1 (by rw[e];exact(by decide:¬Ac=F8)))];rw[ay (show ¬(fA (xu ⟨3,E0,at_,ak,[],args⟩) 0=Qn∧_) from fun h9=>absurd h9.1 (by rw[e];exact(by decide:¬Ac=Qn)))];rw[ay n1,ay n2,e,hpl];have hlc:(Ac::qm at_::ak).length=ak.length+2:=by simp
  rw[hlc];have f0:fA ((Ac::qm at_::ak)++ou::uy args args.length) 0=Ac:=rfl;have f1:fA ((Ac::qm at_::ak)++ou::uy args args.length) 1=qm at_:=rfl;rw[f0,f1,gu ⟨rfl,by omega⟩,En,abz _ (by unfold Oh;omega)]
  have e4:vw ((Ac::qm at_::ak)++ou::uy args args.length) 2 (ak.length+2)=ak:=by
   unfold vw;simp
  have e5:((Ac::qm at_::ak)++ou::uy args args.length).drop (ak.length+2+1)=uy args args.length:=by
   rw[show (Ac::qm at_::ak)++ou::uy args args.length=(Ac::qm at_::(ak++[ou]))++uy args args.length from by simp];exact List.drop_left' (by simp)
  rw[e4,e5,a5x _ h.args]
 by_cases c4:kd=4
 ·subst c4
  have e:xu ⟨4,nm,at_,ak,code,args⟩=[Qn,nm]:=rfl;have h1:=h.ak6 (by simp) (by simp);have h2:=h.agl (by simp);have h4:=h.ad9 (by simp) (by simp);simp only at h1 h2 h4;obtain⟨h2,h3⟩:=h2;subst h1 h2 h3 h4;rw[e];have f0:fA [Qn,nm] 0=Qn:=rfl;have f1:fA [Qn,nm] 1=nm:=rfl;rw[f0,f1,ay (fun h9=>absurd h9.1 (by decide)),ay (fun h9=>absurd h9.1 (by decide)),ay (fun h9=>absurd h9.1 (by decide)),ay (fun h9=>absurd h9.1 (by decide)),ay (fun h9=>absurd h9.1 (by decide)),ay (fun h9=>absurd h9.1 (by decide)),ay (fun h9=>absurd h9.1 (by decide)),gu ⟨rfl,rfl⟩]
 have hn:=h.Yb c1 c4;have h1:=h.ak6 c2 c3;have h2:=h.agl c3;have h4:=h.ad9 c1 c2;simp only at hn h1 h2 h4;obtain⟨h2,h3⟩:=h2;subst hn h1 h2 h3 h4
 by_cases c5:kd=5
 ·subst c5
  have e:xu ⟨5,E0,0,[],[],[]⟩=[Cj]:=rfl;rw[e,show oh [Cj]=Cj from ag9 _];have f0:fA [Cj] 0=Cj:=rfl;rw[f0,ay (fun h9=>absurd h9.1 (by decide)),ay (fun h9=>absurd h9.1 (by decide)),ay (fun h9=>absurd h9.1 (by decide)),ay (fun h9=>absurd h9.1 (by decide)),ay (fun h9=>absurd h9.1 (by decide)),ay (fun h9=>absurd h9.1 (by decide)),ay (fun h9=>absurd h9.1 (by decide)),ay (fun h9=>absurd h9.1 (by decide)),gu rfl]
 ·obtain rfl:kd=6:=by omega
  have e:xu ⟨6,E0,0,[],[],[]⟩=[Fz]:=rfl;rw[e,show oh [Fz]=Fz from ag9 _];have f0:fA [Fz] 0=Fz:=rfl;rw[f0,ay (fun h9=>absurd h9.1 (by decide)),ay (fun h9=>absurd h9.1 (by decide)),ay (fun h9=>absurd h9.1 (by decide)),ay (fun h9=>absurd h9.1 (by decide)),ay (fun h9=>absurd h9.1 (by decide)),ay (fun h9=>absurd h9.1 (by decide)),ay (fun h9=>absurd h9.1 (by decide)),ay (fun h9=>absurd h9.1 (by decide)),ay (by decide),gu rfl]
theorem a1g (l:List UInt8):Rz l<=21474836479:=by
 have h:=ark l l.length;rwa[Eb] at h
theorem aea (s:dh) : -21474836479<=Bo s∧Bo s<=21474836479:=by
 have h:=a1g (bL s);unfold Bo
 split<;>omega
theorem ape (p:dh):(Jg p).name.size<=p.size∧(0<=(Jg p).op∧(Jg p).op<=25) ∧ -21474836479<=(Jg p).val∧(Jg p).val<=21474836479:=by
 unfold Jg
 cases h:(List.range 17).find? (fun i=>decide (Dq i=p)) with
 | some i =>
  have h9:=uw.1 (List.mem_of_find?_eq_some h);simp only;exact⟨jg _,by omega,by omega,by omega⟩
 | none =>
  simp only;have hn:=aea p;have ht:=aea (Ko p)
  have hz:(Ko p).size<=p.size:=by
   rw[←Ez,←Ez p];unfold Ko;rw[Zi,Dh];omega
  split
  ·exact⟨jg _,by decide,by decide,by decide⟩
  split
  ·exact⟨jg _,by decide,by decide,by decide⟩
  split
  ·exact⟨hz,⟨(by decide:(0:Int)<=3),(by decide:(3:Int)<=25)⟩,(by decide:(-21474836479:Int)<=0),(by decide:(0:Int)<=21474836479)⟩
  split
  ·exact⟨jg _,⟨(by decide:(0:Int)<=25),(by decide:(25:Int)<=25)⟩,ht.1,ht.2⟩
  ·exact⟨jg _,⟨(by decide:(0:Int)<=1),(by decide:(1:Int)<=25)⟩,hn.1,hn.2⟩
theorem aie (p:dh) (h:p.size<=1048576):Len (Jg p).name.size∧I64 (Jg p).op∧I64 (Jg p).val:=by
 have h9:=ape p;unfold Len I64;omega
theorem aud (ps:List dh) (q:Nat) (hq:q<ps.length):Dx (ps.take (q+1))=Dx (ps.take q)++[Jg ps[q]]:=by
 unfold Dx;rw[Fb hq,Il];rfl
theorem ajj (ps:List dh) (v:Value) (w:bf) (hv:iy 1 16 wz 0 w v ps) (hs:∀p,p∈ps->p.size<=1048576) (hl:ps.length<=2000000):Calls Tryz.prog 22 #[v] w (fun e w'=>∃v',e=.returned v'∧jm Gx w' w.heap.size v' (Dx ps)∧Below w.heap.size w w'):=by
 obtain⟨PO,Gv⟩:∃PO:Ending->bf->Prop,PO=(fun e w'=>∃v',e=.returned v'∧jm Gx w' w.heap.size v' (Dx ps)∧Below w.heap.size w w'):=⟨_,rfl⟩;rw[←Gv];have Dn:=hide Gv;clear Gv;obtain⟨a,cap,rfl⟩:=hv.shape;have HS:=hide hv;have HZ:=hide hs;clear hv hs;have HST:Hid (jm Gx (w.alloc (.cells #[] 83)) w.heap.size (.slice (some ⟨w.heap.size,0,none⟩) 0 0) []∧Below w.heap.size w (w.alloc (.cells #[] 83))):=hide ⟨jm.start _ _ (gq _),(gy _ _).alloc (gq _) _⟩;go_enter Tryz.func22,Tryz.ntmps22;go_wp2
 go_loopg [3,9] ps.length (fun gh cv ix wr=>∃(q:Nat),q<=ps.length∧gh=ps.length-q∧ix=.int .i64 q∧Hid (jm Gx wr w.heap.size cv (Dx (ps.take q)))∧Hid (Below w.heap.size w wr))
 case atStart=>exact⟨0,jg _,by omega,rfl,hide (uh HST).1,hide (uh HST).2⟩
 case round =>
  obtain⟨q,hq,hg,rfl,HO,HB⟩:=hrel;have HG:=hide hg;clear hg HST
  by_cases hlt:q<ps.length
  ·have hbw:=uh HB
   obtain⟨_,_,D6,_,_,hex⟩:=uh HS;simp only[qw] at D6;obtain⟨rfl,bd8,rfl⟩:=D6;clear bd8;obtain⟨b,o,cs,rfl,_,hb,hcs,hc,hR⟩:=hex q hlt;obtain⟨rfl,_⟩:=hR
   have z0:wr.cell? ⟨b,o+q,none⟩=some (.string ps[q]):=by
    rw[hbw.cell (p:=⟨b,_,none⟩) hb];have h9:=hc 0 (by simp);simpa using h9
   have hps:=uh HZ ps[q] (pz hlt);have HT:=hide (aud ps q hlt);have hok:=aie ps[q] hps;have HIT:=hide (axk ps[q] wr hps);have Ku:(q:Int)<(ps.length:Int):=by omega
   have Hy:Hid (((Dx (ps.take q)).length+1)*32<=140737488355328):=hide (by unfold Dx;rw[Ad,Nq];omega);generalize ps[q]=p at *;generalize Jg p=t at *;generalize Dx (ps.take q)=pre at *;clear hc hcs hex hbw hb;go_wp2_with fail;refine(uh HIT).mono ?_;rintro e w1 ⟨rfl,hb1⟩;have hA:Below w1.heap.size w1 (w1.alloc (.cells #[.int .i64 t.op,.int .i64 t.val,.string t.name] 83)):=(gy _ _).alloc (gq _) _;have hAB:Below wr.heap.size wr (w1.alloc (.cells #[.int .i64 t.op,.int .i64 t.val,.string t.name] 83)):=hb1.trans (hA.mono hb1.size);have Oj:=hide ((uh HO).below hAB);have H4:=hide ((uh HB).trans (hAB.mono (uh HB).size));have Rl:=hide (uh H4).size;clear hA hAB hb1 z0;go_wp2_with (at_builtin;go_must (refine Au Gx _ rfl _ _ rfl w.heap.size _ pre rfl (uh Oj) w1.heap.size t rfl (fun j u hu=>by rw[zy _ _ _ _ rfl];simpa[Gx] using hu) (uh Hy) (uh Rl) ?_));intro v' w5 yc hg5;have HO5:Hid (jm Gx w5 w.heap.size v' (Dx (ps.take (q+1)))):=hide (by rw[uh HT];exact yc);have Hf:=hide ((uh Oj).grown (uh H4) hg5 (uh Rl) (gq _));clear yc hg5;go_wp2
   go_roundg (ps.length-(q+1))
   case measure=>have:=uh HG;omega
   case rel=>exact⟨q+1,by omega,rfl,by go_num,HO5,Hf⟩
  ·have e:q=ps.length:=by omega
   have Ku:¬(q:Int)<(ps.length:Int):=by omega
   obtain⟨ua,uc,hu⟩:=(uh HO).slice
   have qc:Hid (PO (.returned u3) wr):=hide (by
    rw[uh Dn];have h9:=uh HO;rw[e,Eb] at h9;exact⟨u3,rfl,h9,uh HB⟩)
   clear e;go_wp2
   first|exact uh qc|(rw[←hu];exact uh qc)
theorem qo {a b:Bool} (h:a=b):Ending.returned (Value.bool a)=.returned (.bool b):=by rw[h]
theorem aaw {α:Type} {p:α->Bool} {l:List α} (i:Nat) (hi:i<l.length) (h:p l[i]=false):l.all p=false:=by
 rw[List.all_eq_false];exact⟨l[i],pz hi,by simp[h]⟩
theorem Yg {α:Type} {p:α->Bool} {l:List α} (h:∀j (hj:j<l.length),p l[j]=true):l.all p=true:=by
 rw[xw];intro x hx;obtain⟨j,hj,rfl⟩:=List.getElem_of_mem hx;exact h j hj
set_option maxRecDepth 20000 in
theorem Rw (k:dw) (code:List ku) (a1 a2 a3 a4 a5 a6 v:Value) (w:bf) (h:Oz w k a1 a2 a3 a4 a5 a6) (hv:iy 3 32 Gp 0 w v code) :
  Calls Tryz.prog 111 #[.agg #[.string k.name,a1,a2,a3,a4,a5,a6],v] w (Ans (.bool (Tn k code)) w):=by
 have HI:=hide h;obtain⟨b1,c1,rfl⟩:=h.ins.shape;obtain⟨b2,c2,rfl⟩:=h.ak.shape;obtain⟨b3,c3,rfl⟩:=h.iq.shape;obtain⟨b4,c4,rfl⟩:=h.eu.shape;obtain⟨b5,c5,rfl⟩:=h.au.shape;obtain⟨b6,c6,rfl⟩:=h.body.shape;have n4:=h.eu.Bz;clear h;have hA:Below w.heap.size w (w.alloc (.cells #[.string k.name,.slice b1 k.ins.length c1,.slice b2 k.ak.length c2,.slice b3 k.iq.length c3,.slice b4 k.eu.length c4,.slice b5 k.au.length c5,.slice b6 k.body.length c6] 50)):=(gy _ _).alloc (gq _) _;have Xu:=hide (ane 6000 code v (w.alloc (.cells #[.string k.name,.slice b1 k.ins.length c1,.slice b2 k.ak.length c2,.slice b3 k.iq.length c3,.slice b4 k.eu.length c4,.slice b5 k.au.length c5,.slice b6 k.body.length c6] 50)) (hv.stays Ag hA));have U6:jc (w.alloc (.cells #[.string k.name,.slice b1 k.ins.length c1,.slice b2 k.ak.length c2,.slice b3 k.iq.length c3,.slice b4 k.eu.length c4,.slice b5 k.au.length c5,.slice b6 k.body.length c6] 50)) w.heap.size 50 #[.string k.name,.slice b1 k.ins.length c1,.slice b2 k.ak.length c2,.slice b3 k.iq.length c3,.slice b4 k.eu.length c4,.slice b5 k.au.length c5,.slice b6 k.body.length c6]:=og w #[.string k.name,.slice b1 k.ins.length c1,.slice b2 k.ak.length c2,.slice b3 k.iq.length c3,.slice b4 k.eu.length c4,.slice b5 k.au.length c5,.slice b6 k.body.length c6] 50;obtain⟨BX,l9⟩:∃BX:bf->Prop,∀w',BX w'↔Below (w.heap.size+1) (w.alloc (.cells #[.string k.name,.slice b1 k.ins.length c1,.slice b2 k.ak.length c2,.slice b3 k.iq.length c3,.slice b4 k.eu.length c4,.slice b5 k.au.length c5,.slice b6 k.body.length c6] 50)) w':=⟨_,fun _=>Iff.rfl⟩;have Xi:(w.alloc (.cells #[.string k.name,.slice b1 k.ins.length c1,.slice b2 k.ak.length c2,.slice b3 k.iq.length c3,.slice b4 k.eu.length c4,.slice b5 k.au.length c5,.slice b6 k.body.length c6] 50)).heap.size=w.heap.size+1:=by simp
 have Ak:Hid (∀w1,BX w1->Below w.heap.size w w1):=fun w1 h=>hA.trans (((l9 w1).1 h).mono (by omega))
 have Gl:Hid (∀w1 w2,BX w1->Below w1.heap.size w1 w2->BX w2):=fun w1 w2 h h2=>(l9 w2).2 (((l9 w1).1 h).trans (h2.mono (by have:=((l9 w1).1 h).size;omega)))
 have Js:Hid (∀w1,BX w1->w1.cell? ⟨w.heap.size,0,none⟩=some (.string k.name)∧w1.cell? ⟨w.heap.size,1,none⟩=some (.slice b1 k.ins.length c1)∧w1.cell? ⟨w.heap.size,2,none⟩=some (.slice b2 k.ak.length c2)∧w1.cell? ⟨w.heap.size,3,none⟩=some (.slice b3 k.iq.length c3)∧w1.cell? ⟨w.heap.size,4,none⟩=some (.slice b4 k.eu.length c4)∧w1.cell? ⟨w.heap.size,5,none⟩=some (.slice b5 k.au.length c5)∧w1.cell? ⟨w.heap.size,6,none⟩=some (.slice b6 k.body.length c6)):=fun w1 h=>⟨(U6.below ((l9 w1).1 h) (by omega)).cell (i:=0) (v:=.string k.name) rfl,(U6.below ((l9 w1).1 h) (by omega)).cell (i:=1) (v:=.slice b1 k.ins.length c1) rfl,(U6.below ((l9 w1).1 h) (by omega)).cell (i:=2) (v:=.slice b2 k.ak.length c2) rfl,(U6.below ((l9 w1).1 h) (by omega)).cell (i:=3) (v:=.slice b3 k.iq.length c3) rfl,(U6.below ((l9 w1).1 h) (by omega)).cell (i:=4) (v:=.slice b4 k.eu.length c4) rfl,(U6.below ((l9 w1).1 h) (by omega)).cell (i:=5) (v:=.slice b5 k.au.length c5) rfl,(U6.below ((l9 w1).1 h) (by omega)).cell (i:=6) (v:=.slice b6 k.body.length c6) rfl⟩
 have HX5:Hid (∀w1,BX w1->w.heap.size+1<=w1.heap.size):=fun w1 h=>by have:=((l9 w1).1 h).size;omega
 have HX0:Hid (BX (w.alloc (.cells #[.string k.name,.slice b1 k.ins.length c1,.slice b2 k.ak.length c2,.slice b3 k.iq.length c3,.slice b4 k.eu.length c4,.slice b5 k.au.length c5,.slice b6 k.body.length c6] 50))):=(l9 _).2 (gy _ _);have HVR:=hide (fun w' (hb:Below w.heap.size w w')=>Qa k _ _ _ (.slice b4 k.eu.length c4) (.slice b5 k.au.length c5) (.slice b6 k.body.length c6) w' ((uh HI).stays hb).ins ((uh HI).stays hb).ak ((uh HI).stays hb).iq (uh HI).sum);have hx:=hv;obtain⟨av,cv,rfl,_,hn,hx⟩:=hx;unfold Len at hn;have HVX:=hide hx;have HM:Hid (Tn k code=(scM 6000 code&&code.all (Vp k))):=rfl;generalize Tn k code=R at *;clear hA U6 l9 hx hv Xi
 cases hs:scM 6000 code
 ·rw[hs] at Xu HM
  have HR:Hid (R=false):=(uh HM).trans (Bc _);clear HM hs;go_enter Tryz.func111,Tryz.ntmps111;go_wp2_with fail;refine(uh Xu).mono ?_;rintro e w1 ⟨rfl,hb1⟩;have HB:=hide (uh Ak _ (uh Gl _ _ (uh HX0) hb1));clear hb1;go_wp2;go_ret;exact⟨qo (uh HR).symm,uh HB⟩
 rw[hs] at Xu HM;have HR:Hid (R=code.all (Vp k)):=(uh HM).trans (Ar _);clear HM hs;go_enter Tryz.func111,Tryz.ntmps111;go_wp2_with fail;refine(uh Xu).mono ?_;rintro e w1 ⟨rfl,hb1⟩;have azb:=hide (uh Gl _ _ (uh HX0) hb1);clear hb1;go_wp2
 go_loopg [12] code.length (fun g i' wr=>∃(i:Nat),i<=code.length∧g=code.length-i∧i'=.int .i64 i∧(∀j (hj:j<code.length),j<i->Vp k code[j]=true)∧BX wr)
 case atStart=>exact⟨0,jg _,by omega,rfl,fun j _ hj=>absurd hj (yt _),uh azb⟩
 case round =>
  obtain⟨i,hi,hg,rfl,hno,hbx⟩:=hrel;rename bf=>wr;have HG:=hide hg;have Cc:=hide hno;have Ef:=hide hbx;have hsz:=uh HX5 _ hbx;clear hg hno
  by_cases hlt:i<code.length
  ·obtain⟨b,o,cs,Fv,_,hb,hcs,hc0,hR⟩:=uh HVX i hlt
   subst Fv;have hc:∀j (hj:j<cs.length),wr.cell? ⟨b,o+i*3+j,none⟩=some cs[j]:=fun j hj=>by rw[(uh Ak _ hbx).cell (p:=⟨b,_,none⟩) hb];exact hc0 j hj
   obtain⟨rfl,hsn,ho,hvl⟩:=hR;have q0:=hc 0 (by simp);have q1:=hc 1 (by simp);have q2:=hc 2 (by simp);simp only[jh,ny,o8] at q0 q1 q2;have hbz:b<wr.heap.size:=qj hb (uh Ak _ hbx).size;have HIT:Hid (Vp k code[i]=(!(decide (20<code[i].op)&&code[i].op != 25)&&(code[i].op != 3||inB (varsOf k) code[i].name)&&(code[i].op != 25||decide (0<=code[i].val∧code[i].val<(k.eu.length:Int))))):=rfl;have HN:Hid (Vp k code[i]=false->R=false):=fun h=>(uh HR).trans (aaw i hlt h)
   have HY:Hid (Vp k code[i]=true->∀j (hj:j<code.length),j<i+1->Vp k code[j]=true):=fun h j hj hji=>by
    by_cases e:j=i
    ·subst e;exact h
    ·exact uh Cc j hj (by omega)
   have HB4:Hid (∀w',Below wr.heap.size wr w'->BX w'):=fun w' h=>uh Gl _ _ hbx h
   have hal:Below wr.heap.size wr (wr.alloc (.cells #[.int .i64 code[i].op,.int .i64 code[i].val,.string code[i].name] 83)):=(gy _ _).alloc (gq _) _;obtain⟨wq,hwq⟩:∃wq,wq=wr.alloc (.cells #[.int .i64 code[i].op,.int .i64 code[i].val,.string code[i].name] 83):=⟨_,rfl⟩;have hBI:jc wq wr.heap.size 83 #[.int .i64 code[i].op,.int .i64 code[i].val,.string code[i].name]:=by rw[hwq];exact og _ _ _
   rw[←hwq] at hal;have Ba:=hide hal;have hbq:=uh Gl _ _ hbx hal;have Rk:=hide hbq;obtain⟨s0,s1,s2,s3,s4,s5,s6⟩:=uh Js wq hbq;have y0:=hBI.cell (i:=0) (v:=.int .i64 code[i].op) rfl;have y1:=hBI.cell (i:=1) (v:=.int .i64 code[i].val) rfl;have y2:=hBI.cell (i:=2) (v:=.string code[i].name) rfl;have HBI:=hide hBI;have hlt':(i:Int)<(code.length:Int):=by omega
   generalize Vp k code[i]=mi at *;clear hc hc0 hcs hsn ho hvl hal hbq hBI hbx;generalize code[i].op=op at *;generalize code[i].val=vl at *;generalize code[i].name=nm at *;have HQB:Hid (Below w.heap.size w wq):=uh Ak _ (uh Rk)
   have HQn:Hid (∀n,BX (wq.drewN n)∧Below w.heap.size w (wq.drewN n)):=fun n=>by
    have h:BX (wq.drewN n):=uh Gl _ _ (uh Rk) ⟨rfl,rfl,rfl,gq _,fun _ _=>rfl⟩;exact⟨h,uh Ak _ h⟩
   by_cases hA:20<op∧op≠25
   ·have e1:decide (20<op)=true:=jf hA.1
    have e2:(op != 25)=true:=by simpa using hA.2
    have HF:=hide (uh HN (by rw[uh HIT,e1,e2];rfl));clear hA HN HY HIT;have Wu:=HQB;rw[hwq] at Wu;clear hwq;go_wp2;go_ret;exact⟨qo (uh HF).symm,uh Wu⟩
   have e12:(decide (20<op)&&op != 25)=false:=by
    by_cases h:20<op
    ·have:op=25:=by omega
     simp[this]
    ·simp[h]
   rw[e12,Bool.not_false,Ar] at HIT
   by_cases h3:op=3
   ·have y3:(op == 3)=true:=by simp[h3]
    have y3':(op != 3)=false:=by simp[h3]
    have y5:(op != 25)=true:=by simp[h3]
    have y5':(op == 25)=false:=by simp[h3]
    have e1:decide (20<op)=false:=iw (by omega);rw[y3',y5,Bool.false_or,Bool.true_or,Bool.and_true] at HIT
    have HVd:Hid (Calls Tryz.prog 81 #[.agg #[.string k.name,.slice b1 k.ins.length c1,.slice b2 k.ak.length c2,.slice b3 k.iq.length c3,.slice b4 k.eu.length c4,.slice b5 k.au.length c5,.slice b6 k.body.length c6]] wq.drew fun e w''=>∃a c,e=.returned (.slice a (varsOf k).length c)∧BX w''∧Hid (Calls Tryz.prog 112 #[.slice a (varsOf k).length c,.string nm] w'' fun e w3=>e=.returned (.bool (inB (varsOf k) nm))∧BX w3∧w3.cell? ⟨wr.heap.size,0,none⟩=some (.int .i64 op)∧w3.cell? ⟨wr.heap.size,2,none⟩=some (.string nm)∧w3.cell? ⟨w.heap.size,0,none⟩=some (.string k.name)∧w3.cell? ⟨w.heap.size,1,none⟩=some (.slice b1 k.ins.length c1)∧w3.cell? ⟨w.heap.size,2,none⟩=some (.slice b2 k.ak.length c2)∧w3.cell? ⟨w.heap.size,3,none⟩=some (.slice b3 k.iq.length c3)∧w3.cell? ⟨w.heap.size,4,none⟩=some (.slice b4 k.eu.length c4)∧w3.cell? ⟨w.heap.size,5,none⟩=some (.slice b5 k.au.length c5)∧w3.cell? ⟨w.heap.size,6,none⟩=some (.slice b6 k.body.length c6))∧w''.cell? ⟨wr.heap.size,0,none⟩=some (.int .i64 op)∧w''.cell? ⟨wr.heap.size,2,none⟩=some (.string nm)∧w''.cell? ⟨w.heap.size,0,none⟩=some (.string k.name)∧w''.cell? ⟨w.heap.size,1,none⟩=some (.slice b1 k.ins.length c1)∧w''.cell? ⟨w.heap.size,2,none⟩=some (.slice b2 k.ak.length c2)∧w''.cell? ⟨w.heap.size,3,none⟩=some (.slice b3 k.iq.length c3)∧w''.cell? ⟨w.heap.size,4,none⟩=some (.slice b4 k.eu.length c4)∧w''.cell? ⟨w.heap.size,5,none⟩=some (.slice b5 k.au.length c5)∧w''.cell? ⟨w.heap.size,6,none⟩=some (.slice b6 k.body.length c6)):=by
     have hdq:Below wq.heap.size wq wq.drew:=(gy _ wq).drew;refine(uh HVR wq.drew ((uh HQB).trans (hdq.mono (uh HQB).size))).mono ?_;rintro e w'' ⟨vv,rfl,hVS,hb1⟩;have h8:Below wq.heap.size wq w'':=hdq.trans hb1;have hx8:=uh Gl _ _ (uh Rk) h8;obtain⟨a,c,rfl⟩:=hVS.shape;have u0:w''.cell? ⟨wr.heap.size,0,none⟩=some (.int .i64 op):=by rw[h8.cell (p:=⟨wr.heap.size,_,none⟩) (uh HBI).lt];exact y0
     have u2:w''.cell? ⟨wr.heap.size,2,none⟩=some (.string nm):=by rw[h8.cell (p:=⟨wr.heap.size,_,none⟩) (uh HBI).lt];exact y2
     refine⟨a,c,rfl,hx8,?_,u0,u2,uh Js w'' hx8⟩;show Calls Tryz.prog 112 _ w'' _;refine(adl (varsOf k) _ nm w'' hVS).mono ?_;rintro e w3 ⟨rfl,rfl⟩;exact⟨rfl,hx8,u0,u2,uh Js _ hx8⟩
    have hop:op=3:=h3;clear h3 hA e12;generalize inB (varsOf k) nm=ib at *;generalize (varsOf k).length=vl2 at *
    cases ib
    ·have HF:=hide (uh HN (uh HIT))
     clear HN HY HIT hop;go_wp2_with fail;rw[←hwq];clear hwq
     go_region_held3 (fun w'=>w'.cell? ⟨wr.heap.size,0,none⟩=some (.int .i64 op)∧w'.cell? ⟨wr.heap.size,2,none⟩=some (.string nm)∧w'.cell? ⟨w.heap.size,0,none⟩=some (.string k.name)∧w'.cell? ⟨w.heap.size,1,none⟩=some (.slice b1 k.ins.length c1)∧w'.cell? ⟨w.heap.size,2,none⟩=some (.slice b2 k.ak.length c2)∧w'.cell? ⟨w.heap.size,3,none⟩=some (.slice b3 k.iq.length c3)∧w'.cell? ⟨w.heap.size,4,none⟩=some (.slice b4 k.eu.length c4)∧w'.cell? ⟨w.heap.size,5,none⟩=some (.slice b5 k.au.length c5)∧w'.cell? ⟨w.heap.size,6,none⟩=some (.slice b6 k.body.length c6)) (go_keep) (first|(go_at_call 81;refine(uh HVd).mono ?_;rintro e w5 ⟨a5,c5',rfl,hB5,HI5,t0,t1,t2,t3,t4,t5,t6,t7,t8⟩;clear HVd)|(go_at_call 112;refine(uh HI5).mono ?_;rintro e w6 ⟨rfl,hB6,z0,z1,z2,z3,z4,z5,z6,z7,z8⟩;clear HI5))
     have Wx:=hide (uh Ak _ hB6);go_wp2;go_ret;exact⟨qo (uh HF).symm,uh Wx⟩
    ·have Ls:=hide (uh HY (uh HIT))
     clear HN HY HIT hop;go_wp2_with fail;rw[←hwq];clear hwq
     go_region_held3 (fun w'=>w'.cell? ⟨wr.heap.size,0,none⟩=some (.int .i64 op)∧w'.cell? ⟨wr.heap.size,2,none⟩=some (.string nm)∧w'.cell? ⟨w.heap.size,0,none⟩=some (.string k.name)∧w'.cell? ⟨w.heap.size,1,none⟩=some (.slice b1 k.ins.length c1)∧w'.cell? ⟨w.heap.size,2,none⟩=some (.slice b2 k.ak.length c2)∧w'.cell? ⟨w.heap.size,3,none⟩=some (.slice b3 k.iq.length c3)∧w'.cell? ⟨w.heap.size,4,none⟩=some (.slice b4 k.eu.length c4)∧w'.cell? ⟨w.heap.size,5,none⟩=some (.slice b5 k.au.length c5)∧w'.cell? ⟨w.heap.size,6,none⟩=some (.slice b6 k.body.length c6)) (go_keep) (first|(go_at_call 81;refine(uh HVd).mono ?_;rintro e w5 ⟨a5,c5',rfl,hB5,HI5,t0,t1,t2,t3,t4,t5,t6,t7,t8⟩;clear HVd)|(go_at_call 112;refine(uh HI5).mono ?_;rintro e w6 ⟨rfl,hB6,z0,z1,z2,z3,z4,z5,z6,z7,z8⟩;clear HI5))
     have Wx:=hide hB6;go_wp2
     go_roundg (code.length-(i+1))
     case measure=>have:=uh HG;omega
     case rel=>exact⟨i+1,by omega,rfl,by go_num,uh Ls,uh Wx⟩
   have y3:(op == 3)=false:=by simp[h3]
   have y3':(op != 3)=true:=by simp[h3]
   rw[y3',Bool.true_or,Ar] at HIT;clear h3
   by_cases Sj:op=25
   ·have y5:(op == 25)=true:=by simp[Sj]
    have y5':(op != 25)=false:=by simp[Sj]
    have e1:decide (20<op)=true:=jf (by omega);rw[y5',Bool.false_or] at HIT;clear Sj hA e12
    by_cases hv0:vl<0
    ·have f1:decide (vl<0)=true:=jf hv0
     have HF:=hide (uh HN (by rw[uh HIT,Nl];omega));clear HN HY HIT;go_wp2_with fail;rw[←hwq];clear hwq;go_quiet ((fail));go_wp2;go_ret;exact⟨qo (uh HF).symm,(uh HQn _).2⟩
    have f1:decide (vl<0)=false:=iw hv0
    by_cases hvm:(k.eu.length:Int)<=vl
    ·have f2:decide ((k.eu.length:Int)<=vl)=true:=jf hvm
     have HF:=hide (uh HN (by rw[uh HIT,Nl];omega));clear HN HY HIT;go_wp2_with fail;rw[←hwq];clear hwq;go_quiet ((fail));go_wp2;go_ret;exact⟨qo (uh HF).symm,(uh HQn _).2⟩
    ·have f2:decide ((k.eu.length:Int)<=vl)=false:=iw hvm
     have Ls:=hide (uh HY (by rw[uh HIT,Eh];omega));clear HN HY HIT;go_wp2_with fail;rw[←hwq];clear hwq;go_quiet ((fail));go_wp2
     go_roundg (code.length-(i+1))
     case measure=>have:=uh HG;omega
     case rel=>exact⟨i+1,by omega,rfl,by go_num,uh Ls,(uh HQn _).1⟩
   ·have y5:(op == 25)=false:=by simp[Sj]
    have y5':(op != 25)=true:=by simp[Sj]
    have e1:decide (20<op)=false:=iw (by omega);rw[y5',Bool.true_or] at HIT;have Ls:=hide (uh HY (uh HIT));clear HN HY HIT Sj hA e12;go_wp2_with fail;rw[←hwq];clear hwq;go_quiet ((fail));go_wp2
    go_roundg (code.length-(i+1))
    case measure=>have:=uh HG;omega
    case rel=>exact⟨i+1,by omega,rfl,by go_num,uh Ls,(uh HQn _).1⟩
  ·have e:i=code.length:=by omega
   subst e;have HF:Hid (R=true):=(uh HR).trans (Yg (fun j hj=>uh Cc j hj hj));have HB:=hide (uh Ak _ hbx);go_wp2;go_ret;exact⟨qo (uh HF).symm,uh HB⟩
end Go.Proofs.YtfeejeflmcapoaaGreatDoor
