import Derived.Test.YtlcgnbcgmljpaaaGreatMQ1
import Derived.Test.YtlcgnbcgmljpaaaGreatUE
import Derived.Test.YtlcgnbcgmljpaaaGreatMI2
import Derived.Deep.RegionHeld3
namespace Go.Proofs.YtlcgnbcgmljpaaaGreat
open Go.RowKit
set_option linter.unusedSimpArgs false
set_option linter.unusedVariables false
def Nk (k:ak) (code:List iw):Bool:=decide (code.length<=6000)&&code.all (Sz k)&&wk code 0
theorem abz (l:List ByteArray) (s:ByteArray):inB l s=decide (0<=iy l s):=by
 rw[Bool.eq_iff_iff,decide_eq_true_iff]
 have h:=Ya l s
 unfold inB
 rw[List.any_eq_true]
 constructor
 ·rintro⟨x,hx,e⟩
  rw[Ak,decide_eq_true_iff] at e
  by_cases hh:0<=iy l s
  ·exact hh
  ·exact absurd e ((h.1 (by omega)) x hx)
 ·intro hh
  by_cases g:∃x,x∈l∧(x.toList == s.toList)=true
  ·exact g
  ·exfalso
   have:iy l s<0:=h.2 (fun x hx e=>g ⟨x,hx,by rw[Ak,decide_eq_true_iff];exact e⟩)
   omega
theorem acr (k:ak) (t:iw):Sz k t=true↔(1<=t.op∧t.op<=25)∧O5 t=true∧Pg k t=true:=by
 unfold Sz
 by_cases Jd:t.op=25
 ·rw[if_pos Jd,ali]
  simp only[Xu,Pg,Jd,Bool.and_eq_true,decide_eq_true_iff]
  simp
  constructor
  ·rintro⟨⟨a,b⟩,c⟩;exact⟨a,by omega,c⟩
  ·rintro⟨a,b,c⟩;exact⟨⟨a,by omega⟩,c⟩
 ·rw[if_neg Jd]
  by_cases h20:20<t.op
  ·rw[if_pos h20]
   have:Pg k t=false:=by simp[Pg,h20,Jd]
   simp[this]
  ·rw[if_neg h20,ali]
   have e1:Pg k t=(t.op != 3||inB (varsOf k) t.name):=by
    simp[Pg,h20,Jd]
   rw[e1,abz]
   cases hi:itB t
   ·rw[if_pos rfl]
    constructor
    ·intro h;cases h
    ·rintro⟨a,⟨b,c⟩,_⟩
     have:itB t=true:=(apk t).2 ⟨by omega,c.resolve_left Jd,b⟩
     rw[hi] at this;cases this
   ·rw[if_neg (by decide)]
    have h:=(apk t).1 hi
    by_cases h3:t.op=3
    ·rw[if_pos h3]
     simp only[h3]
     constructor
     ·intro g;exact⟨by omega,⟨h.2.2,Or.inr h.2.1⟩,by simpa using g⟩
     ·rintro⟨_,_,g⟩;simpa using g
    ·rw[if_neg h3]
     simp only[true_iff]
     exact⟨by omega,⟨h.2.2,Or.inr h.2.1⟩,by simp[h3]⟩
theorem acs (k:ak) (xs:List iw):Nk k xs=Oe k xs:=by
 rw[Bool.eq_iff_iff]
 simp only[Nk,Oe,Ym,Bool.and_eq_true,decide_eq_true_iff,List.all_eq_true,awt,a1s,List.reverse_reverse,List.mem_reverse]
 constructor
 ·rintro⟨⟨h2,h3⟩,h4⟩
  have har:∀t,t∈xs->0<=Kq t.op:=fun t ht=>(apj t.op).2 (by have:=((acr k t).1 (h3 t ht)).1;omega)
  have h5:fw xs 0=some 1:=(avn xs 0 (fun t ht=>avo _ (har t ht))).1 h4
  refine⟨⟨⟨⟨?_,by omega⟩,har,by simpa using h5⟩,fun t ht=>((acr k t).1 (h3 t ht)).2.1⟩,fun t ht=>((acr k t).1 (h3 t ht)).2.2⟩
  cases xs with
  | nil=>simp[fw] at h5
  | cons t ts=>simp
 ·rintro⟨⟨⟨⟨h1,h2⟩,h3,h4⟩,h5⟩,h6⟩
  refine⟨⟨by omega,fun t ht=>(acr k t).2 ⟨(apj t.op).1 (h3 t ht),h5 t ht,h6 t ht⟩⟩,?_⟩
  exact(avn xs 0 (fun t ht=>avo _ (h3 t ht))).2 (by simpa using h4)
theorem adx (l:List ByteArray) (s:ByteArray) (h:0<=iy l s):l[(iy l s).toNat]?=some s:=by
 unfold iy at *
 cases hf:l.findIdx? (fun x=>x.toList == s.toList) with
 | none=>rw[hf] at h;simp at h
 | some i =>
  obtain⟨hi,h1,_⟩:=List.findIdx?_eq_some_iff_getElem.1 hf
  rw[Ak,decide_eq_true_iff] at h1
  simp only[Int.toNat_natCast]
  rw[List.getElem?_eq_getElem hi,h1]
theorem ag1 (l:List ByteArray) (s x:ByteArray) (h:0<=iy l s) (e:iy l x=iy l s):x=s:=by
 have h1:=adx l s h
 have h2:=adx l x (by omega)
 rw[e,h1] at h2
 simpa using h2.symm
theorem ac2 (l:List ByteArray) (i:Nat) (hi:i<l.length):iy l l[i]<(i:Int)↔∃j,∃hj:j<l.length,j<i∧l[j]=l[i]:=by
 have h0:0<=iy l l[i]:=by
  by_cases h:0<=iy l l[i]
  ·exact h
  ·exact absurd rfl ((Ya l l[i]).1 (by omega) l[i] (List.getElem_mem hi))
 constructor
 ·intro h
  have h1:=adx l l[i] h0
  refine⟨(iy l l[i]).toNat,by omega,by omega,?_⟩
  rw[List.getElem?_eq_getElem (by omega)] at h1
  simpa using h1
 ·rintro⟨j,hj,hji,e⟩
  by_cases h:iy l l[i]<(i:Int)
  ·exact h
  ·exfalso
   unfold iy at h h0
   cases hf:l.findIdx? (fun x=>x.toList == l[i].toList) with
   | none=>rw[hf] at h0;simp at h0
   | some q =>
    obtain⟨hq,_,h2⟩:=List.findIdx?_eq_some_iff_getElem.1 hf
    rw[hf] at h
    simp only at h
    have h3:=h2 j (by omega)
    rw[Ak,e] at h3
    simp at h3
def cnt (k:ak) (H:List ByteArray) (q:Nat):Nat:=H.countP (fun y=>iy (varsOf k) y == (q:Int))
def Vh (k:ak) (H:List ByteArray) (x:ByteArray):Bool:=setB k x&&decide (cnt k H (iy (varsOf k) x).toNat=0)
theorem ajx (k:ak) (H:List ByteArray) (x:ByteArray) (h:0<=iy (varsOf k) x):cnt k H (iy (varsOf k) x).toNat=0↔∀y,y∈H->y≠x:=by
 unfold cnt
 rw[List.countP_eq_zero]
 constructor
 ·rintro g y hy rfl
  exact g y hy (by rw[beq_iff_eq];omega)
 ·intro g y hy e
  rw[beq_iff_eq] at e
  exact g y hy (ag1 _ x y h (by omega))
theorem ajl (k:ak) (H:List ByteArray) (y:ByteArray) (q:Nat):cnt k (y::H) q=cnt k H q+if iy (varsOf k) y=(q:Int) then 1 else 0:=by
 unfold cnt
 rw[List.countP_cons]
 congr 1
 by_cases e:iy (varsOf k) y=(q:Int)
 ·rw[if_pos e,if_pos (by rw[beq_iff_eq];exact e)]
 ·rw[if_neg e,if_neg (by rw[beq_iff_eq];exact e)]
theorem ae3 (k:ak) (H:List ByteArray) (x:ByteArray):Vh k H x=true↔setB k x=true∧∀y,y∈H->y≠x:=by
 unfold Vh
 rw[Bool.and_eq_true,decide_eq_true_iff]
 constructor
 ·rintro⟨h1,h2⟩
  have:0<=iy (varsOf k) x:=by unfold setB at h1;have:=of_decide_eq_true h1;omega
  exact⟨h1,(ajx k H x this).1 h2⟩
 ·rintro⟨h1,h2⟩
  have:0<=iy (varsOf k) x:=by unfold setB at h1;have:=of_decide_eq_true h1;omega
  exact⟨h1,(ajx k H x this).2 h2⟩
def adv (k:ak) (outs:List ByteArray) (i:Nat):Bool:=match outs[i]? with
 | some x=>(List.range i).any (fun j=>match outs[j]? with|some y=>iy (varsOf k) y == iy (varsOf k) x|none=>false)
 | none=>false
def U0 (k:ak) (H:List ByteArray) (outs:List ByteArray) (i:Nat):Bool:=match outs[i]? with
 | some x=>Vh k H x&&!adv k outs i
 | none=>false
def Q8 (ks:List ak) (k:ak) (H:List ByteArray) (s:dh):Bool :=
 if s.at_<0∨(k.insts.length:Int)<=s.at_ then false
 else match ks[(k.insts.getD s.at_.toNat 0).toNat]? with
  | none=>false
  | some g=>decide (s.outs.length=g.outs.length∧s.args.length=g.ins.length)&&s.args.all (Nk k)&&(List.range s.outs.length).all (U0 k H s.outs)
def Qz (ks:List ak) (k:ak) (H:List ByteArray) (s:dh):Bool :=
 if s.kind=1 then Vh k H s.name&&Nk k s.code
 else if s.kind=2 then decide (0<=s.at_∧s.at_<(k.aj.length:Int))&&Nk k s.code
 else if s.kind=3 then Q8 ks k H s
 else false
theorem axl (k:ak) (outs:List ByteArray) (i:Nat) (hi:i<outs.length) (h:0<=iy (varsOf k) outs[i]):adv k outs i=decide (iy outs outs[i]<(i:Int)):=by
 rw[Bool.eq_iff_iff,decide_eq_true_iff,ac2 outs i hi]
 unfold adv
 rw[List.getElem?_eq_getElem hi]
 simp only
 rw[List.any_eq_true]
 constructor
 ·rintro⟨j,hj,e⟩
  rw[List.mem_range] at hj
  rw[List.getElem?_eq_getElem (by omega)] at e
  simp only[beq_iff_eq] at e
  exact⟨j,by omega,hj,ag1 _ _ _ h e⟩
 ·rintro⟨j,hj,hji,e⟩
  refine⟨j,List.mem_range.2 hji,?_⟩
  rw[List.getElem?_eq_getElem hj,e]
  simp
theorem af5 (k:ak) (H:List ByteArray) (outs:List ByteArray) (i:Nat) (hi:i<outs.length):U0 k H outs i=(!J6 k outs i&&decide (∀y,y∈H->y≠outs[i])):=by
 unfold U0 J6
 rw[List.getElem?_eq_getElem hi]
 simp only
 rw[Bool.eq_iff_iff,Bool.and_eq_true,Bool.and_eq_true,ae3,decide_eq_true_iff]
 cases hs:setB k outs[i]
 ·simp
 ·have h0:0<=iy (varsOf k) outs[i]:=by unfold setB at hs;have:=of_decide_eq_true hs;omega
  rw[axl k outs i hi h0]
  simp
  exact and_comm
theorem al5 (l:List ByteArray) (x:ByteArray):inB l x=true↔x∈l:=by
 unfold inB
 rw[List.any_eq_true]
 constructor
 ·rintro⟨y,hy,e⟩
  rw[Ak,decide_eq_true_iff] at e
  exact e▸hy
 ·intro h
  exact⟨x,h,by simp⟩
theorem aq8 (ks:List ak) (k:ak) (H:List ByteArray) (s:dh):Q8 ks k H s=true↔Qx ks k s=true∧∀y,y∈H->y∉s.outs:=by
 unfold Q8 Qx
 by_cases ha:s.at_<0∨(k.insts.length:Int)<=s.at_
 ·rw[if_pos ha,if_pos ha];simp
 ·rw[if_neg ha,if_neg ha]
  cases ks[(k.insts.getD s.at_.toNat 0).toNat]? with
  | none=>simp
  | some g =>
   simp only[Bool.and_eq_true,List.all_eq_true,List.mem_range]
   constructor
   ·rintro⟨⟨h1,h2⟩,h3⟩
    refine⟨⟨⟨h1,fun i hi=>?_⟩,fun c hc=>by rw[←acs];exact h2 c hc⟩,fun y hy hyo=>?_⟩
    ·have:=h3 i hi
     rw[af5 k H s.outs i hi,Bool.and_eq_true] at this
     exact this.1
    ·obtain⟨i,hi,e⟩:=List.getElem_of_mem hyo
     have:=h3 i hi
     rw[af5 k H s.outs i hi,Bool.and_eq_true,decide_eq_true_iff] at this
     exact this.2 y hy e.symm
   ·rintro⟨⟨⟨h1,h2⟩,h3⟩,h4⟩
    refine⟨⟨h1,fun c hc=>by rw[acs];exact h3 c hc⟩,fun i hi=>?_⟩
    rw[af5 k H s.outs i hi,Bool.and_eq_true,decide_eq_true_iff]
    exact⟨h2 i hi,fun y hy e=>h4 y hy (e▸List.getElem_mem hi)⟩
theorem aq9 (s:dh):xg s=true↔(s.kind=1∨s.kind=4∨s.name.size=0)∧(s.kind=2∨s.kind=3∨s.at_=0)∧(s.kind=3∨(s.outs.length=0∧s.args.length=0))∧(s.kind=1∨s.kind=2∨s.code.length=0):=by
 unfold xg
 simp only[Bool.and_eq_true,Bool.or_eq_true,decide_eq_true_iff]
 omega
theorem ae4 (ks:List ak) (k:ak) (s:dh):ny ks k s=(xg s&&F8 ks k s):=by
 cases hu:xg s
 ·rw[Bool.false_and]
  have h:¬xg s=true:=by rw[hu];decide
  rw[aq9] at h
  by_cases h1:s.kind=1∨s.kind=4∨s.name.size=0
  ·by_cases h2:s.kind=2∨s.kind=3∨s.at_=0
   ·by_cases h3:s.kind=3∨(s.outs.length=0∧s.args.length=0)
    ·exact Sl ks k s (by omega) (by omega) (by omega)
    ·exact Jm ks k s (by omega) (by omega)
   ·exact Zb ks k s (by omega) (by omega) (by omega)
  ·exact Sj ks k s (by omega) (by omega)
 ·obtain⟨h1,h2,h3,h4⟩:=(aq9 s).1 hu
  rw[Bool.true_and]
  exact Na ks k s h1 h2 h3 h4
theorem ajy (ks:List ak) (k:ak) (H:List ByteArray) (s:dh) (h4:s.kind≠4) (h5:s.kind≠5) (h6:s.kind≠6):(xg s=true∧Qz ks k H s=true)↔ny ks k s=true∧∀x,x∈H->Oc s x=false:=by
 rw[ae4,Bool.and_eq_true,and_assoc]
 refine and_congr_right (fun _=>?_)
 unfold Qz F8 Oc
 by_cases h1:s.kind=1
 ·rw[if_pos h1,if_pos h1,Bool.and_eq_true,Bool.and_eq_true,ae3,acs]
  simp only[h1,Ak]
  constructor
  ·rintro⟨⟨a,b⟩,c⟩;exact⟨⟨a,c⟩,fun x hx=>by simp;exact fun e=>b x hx e.symm⟩
  ·rintro⟨⟨a,c⟩,b⟩;exact⟨⟨a,fun y hy e=>by have:=b y hy;simp at this;exact this e.symm⟩,c⟩
 ·rw[if_neg h1,if_neg h1]
  by_cases h2:s.kind=2
  ·rw[if_pos h2,if_pos h2,acs]
   simp[h2]
  ·rw[if_neg h2,if_neg h2,if_neg h4,if_neg (show ¬(s.kind=5∨s.kind=6) by omega)]
   by_cases h3:s.kind=3
   ·rw[if_pos h3,if_pos h3,aq8]
    refine and_congr_right (fun _=>?_)
    simp only[h3]
    constructor
    ·intro g x hx
     have:=g x hx
     rw[←al5] at this
     simpa using this
    ·intro g x hx
     have:=g x hx
     rw[←al5]
     simpa using this
   ·rw[if_neg h3,if_neg h3];simp
def yc (ks:List ak) (k:ak):Nat->List dh->List ByteArray->Int->Option (PL × List dh)
 | 0,_,_,_=>none
 | f+1,[],H,d=>some (.nil,[])
 | f+1,s::r,H,d =>
  if s.kind=5∨s.kind=6 then some (.nil,s::r)
  else if 20<d then none
  else if xg s=false then none
  else if s.kind=4 then
   (if iy (varsOf k) s.name<0 then none
   else match yc ks k f r (s.name::H) (d+1) with
   | none=>none
   | some (_,[])=>none
   | some (a,el::r1)=>if el.kind≠5∨xg el=false then none else match yc ks k f r1 (s.name::H) (d+1) with
    | none=>none
    | some (_,[])=>none
    | some (b,en::r2)=>if en.kind≠6∨xg en=false then none else match yc ks k f r2 H d with
     | none=>none
     | some (t,r3)=>some (.br s a el b en t,r3))
  else if Qz ks k H s=false then none
  else match yc ks k f r H d with
   | none=>none
   | some (t,r')=>some (.leaf s t,r')
def ara (rest:List dh):Prop:=rest=[]∨∃s r,rest=s::r∧(s.kind=5∨s.kind=6)
theorem Ye (ks:List ak) (k:ak):∀(f:Nat) (ss:List dh) (H:List ByteArray) (d:Int) (t:PL) (rest:List dh),yc ks k f ss H d=some (t,rest) ->
  ss=t.flat++rest∧t.wf∧t.deep d∧t.free H∧(∀s,s∈t.flat->ny ks k s=true)∧ara rest:=by
 intro f
 induction f with
 | zero=>intro ss H d t rest h;cases h
 | succ f ih =>
  intro ss H d t rest h
  cases ss with
  | nil =>
   simp only[yc,Option.some.injEq,Prod.mk.injEq] at h
   obtain⟨rfl,rfl⟩:=h
   exact⟨rfl,trivial,trivial,trivial,(fun s hs=>by cases hs),Or.inl rfl⟩
  | cons s r =>
   rw[yc] at h
   split at h
   ·rename_i Qw
    simp only[Option.some.injEq,Prod.mk.injEq] at h
    obtain⟨rfl,rfl⟩:=h
    exact⟨rfl,trivial,trivial,trivial,(fun s hs=>by cases hs),Or.inr ⟨s,r,rfl,Qw⟩⟩
   rename_i Qw
   split at h
   ·cases h
   rename_i hd
   split at h
   ·cases h
   rename_i hu
   rw[Bool.not_eq_false] at hu
   split at h
   ·rename_i h4
    split at h
    ·cases h
    rename_i hpl
    split at h
    ·cases h
    ·cases h
    rename_i a el r1 ha
    split at h
    ·cases h
    rename_i hel
    split at h
    ·cases h
    ·cases h
    rename_i b en r2 hb
    split at h
    ·cases h
    rename_i hen
    split at h
    ·cases h
    rename_i t' r3 ht
    simp only[Option.some.injEq,Prod.mk.injEq] at h
    obtain⟨rfl,rfl⟩:=h
    obtain⟨a1,a2,a3,a4,a5,a6⟩:=ih _ _ _ _ _ ha
    obtain⟨b1,b2,b3,b4,b5,b6⟩:=ih _ _ _ _ _ hb
    obtain⟨c1,c2,c3,c4,c5,c6⟩:=ih _ _ _ _ _ ht
    have au8:el.kind=5∧xg el=true:=⟨by omega,by cases hh:xg el;exact absurd (Or.inr hh) hel;rfl⟩
    have hen':en.kind=6∧xg en=true:=⟨by omega,by cases hh:xg en;exact absurd (Or.inr hh) hen;rfl⟩
    have s4:ny ks k s=true:=by
     rw[ae4,hu,Bool.true_and]
     unfold F8
     rw[if_neg (by omega),if_neg (by omega),if_pos h4,abz]
     exact decide_eq_true (by omega)
    have s5:∀x:dh,x.kind=5∨x.kind=6->xg x=true->ny ks k x=true:=fun x hx hxu=>by
     rw[ae4,hxu,Bool.true_and]
     unfold F8
     rw[if_neg (by omega),if_neg (by omega),if_neg (by omega),if_pos hx]
    refine⟨?_,⟨⟨h4,au8.1,hen'.1⟩,a2,b2,c2⟩,⟨by omega,a3,b3,c3⟩,⟨a4,b4,c4⟩,fun x hx=>?_,c6⟩
    ·rw[a1,b1,c1]
     simp[PL.flat]
    ·simp only[PL.flat,List.mem_cons,List.mem_append] at hx
     rcases hx with rfl|hx|rfl|hx|rfl|hx
     ·exact s4
     ·exact a5 x hx
     ·exact s5 _ (Or.inl au8.1) au8.2
     ·exact b5 x hx
     ·exact s5 _ (Or.inr hen'.1) hen'.2
     ·exact c5 x hx
   ·rename_i h4
    split at h
    ·cases h
    rename_i hlf
    rw[Bool.not_eq_false] at hlf
    split at h
    ·cases h
    rename_i t' r' ht
    simp only[Option.some.injEq,Prod.mk.injEq] at h
    obtain⟨rfl,rfl⟩:=h
    obtain⟨c1,c2,c3,c4,c5,c6⟩:=ih _ _ _ _ _ ht
    obtain⟨l1,l2⟩:=(ajy ks k H s h4 (by omega) (by omega)).1 ⟨hu,hlf⟩
    refine⟨by rw[c1];rfl,⟨⟨h4,by omega,by omega⟩,c2⟩,⟨by omega,c3⟩,⟨l2,c4⟩,fun x hx=>?_,c6⟩
    simp only[PL.flat,List.mem_cons] at hx
    rcases hx with rfl|hx
    ·exact l1
    ·exact c5 x hx
theorem af6 (ks:List ak) (k:ak) (t:PL):∀(f:Nat) (H:List ByteArray) (d:Int) (rest:List dh),t.wf->t.deep d->t.free H->(∀s,s∈t.flat->ny ks k s=true)->ara rest->t.flat.length<f->yc ks k f (t.flat++rest) H d=some (t,rest):=by
 induction t using PL.ind with
 | nil =>
  intro f H d rest _ _ _ _ hr hf
  obtain⟨f,rfl⟩:∃g,f=g+1:=⟨f-1,by omega⟩
  rcases hr with rfl|⟨s,r,rfl,h⟩
  ·rfl
  ·simp only[PL.flat,List.nil_append]
   rw[yc,if_pos h]
 | leaf s r ih =>
  intro f H d rest hw hd hfr hst hr hf
  obtain⟨⟨h4,h5,h6⟩,hw⟩:=hw
  obtain⟨hd0,hd⟩:=hd
  obtain⟨hx,hfr⟩:=hfr
  simp only[PL.flat,List.length_cons] at hf
  obtain⟨f,rfl⟩:∃g,f=g+1:=⟨f-1,by omega⟩
  obtain⟨u1,u2⟩:=(ajy ks k H s h4 h5 h6).2 ⟨hst s (by simp[PL.flat]),hx⟩
  have:=ih f H d rest hw hd hfr (fun x hx=>hst x (by simp[PL.flat,hx])) hr (by omega)
  simp only[PL.flat,List.cons_append]
  rw[yc,if_neg (by omega),if_neg (by omega),if_neg (by rw[u1];decide),if_neg h4,if_neg (by rw[u2];decide),this]
 | br s a el b en r iha ihb ihr =>
  intro f H d rest hw hd hfr hst hr hf
  obtain⟨⟨h4,h5,h6⟩,wa,wb,wr⟩:=hw
  obtain⟨hd0,da,db,dr⟩:=hd
  obtain⟨fa,fb,fr⟩:=hfr
  simp only[PL.flat,List.length_cons,List.length_append] at hf
  obtain⟨f,rfl⟩:∃g,f=g+1:=⟨f-1,by omega⟩
  have s4:=hst s (by simp[PL.flat])
  have s5:=hst el (by simp[PL.flat])
  have s6:=hst en (by simp[PL.flat])
  rw[ae4,Bool.and_eq_true] at s4 s5 s6
  have hpl:¬iy (varsOf k) s.name<0:=by
   have:=s4.2
   unfold F8 at this
   rw[if_neg (by omega),if_neg (by omega),if_pos h4,abz] at this
   have:=of_decide_eq_true this
   omega
  have ea:=iha f (s.name::H) (d+1) (el::(b.flat++en::(r.flat++rest))) wa da fa (fun x hx=>hst x (by simp[PL.flat,hx])) (Or.inr ⟨_,_,rfl,Or.inl h5⟩) (by omega)
  have eb:=ihb f (s.name::H) (d+1) (en::(r.flat++rest)) wb db fb (fun x hx=>hst x (by simp[PL.flat,hx])) (Or.inr ⟨_,_,rfl,Or.inr h6⟩) (by omega)
  have er:=ihr f H d rest wr dr fr (fun x hx=>hst x (by simp[PL.flat,hx])) hr (by omega)
  simp only[PL.flat,List.cons_append,List.append_assoc]
  rw[yc,if_neg (by omega),if_neg (by omega),if_neg (by rw[s4.1];decide),if_pos h4,if_neg hpl,ea]
  simp only
  rw[if_neg (by rw[s5.1];simp[h5]),eb]
  simp only
  rw[if_neg (by rw[s6.1];simp[h6]),er]
def acu (ks:List ak) (k:ak):Bool:=k.body.all (ny ks k)&&(zi (k.body.length+1) (dn k.body) 0&&(List.range k.body.length).all (fun j=>!Jz k.body j))
theorem ag2 (ks:List ak) (k:ak):acu ks k=true↔∃t,yc ks k (k.body.length+1) k.body [] 0=some (t,[]):=by
 unfold acu
 simp only[Bool.and_eq_true]
 constructor
 ·rintro⟨h1,h2,h3⟩
  obtain⟨t,rfl',wf,dp⟩:=agz _ k.body 0 (Nat.lt_succ_self _) h2 (Or.inl (by omega))
  refine⟨t,?_⟩
  rw[←rfl'] at h1 h3 ⊢
  have:=af6 ks k t (t.flat.length+1) [] 0 [] wf dp ((ag0 t wf).1 h3) (List.all_eq_true.1 h1) (Or.inl rfl) (Nat.lt_succ_self _)
  rwa[List.append_nil] at this
 ·rintro⟨t,h⟩
  obtain⟨a1,a2,a3,a4,a5,a6⟩:=Ye ks k _ _ _ _ _ _ h
  rw[List.append_nil] at a1
  rw[a1]
  exact⟨List.all_eq_true.2 a5,au3 t a2 a3,(ag0 t a2).2 a4⟩
theorem ady (ks:List ak) (k:ak) (known:List Int) (t:PL) (h:yc ks k (k.body.length+1) k.body [] 0=some (t,[])):sumF (k.body.length+1) (costs k.insts known k.body)=t.cost (lg k.insts known) 0:=by
 obtain⟨a1,a2,_⟩:=Ye ks k _ _ _ _ _ _ h
 rw[List.append_nil] at a1
 rw[a1]
 exact au5 k.insts known t a2
def qIt (k:ak) (xs:List iw) (j:Nat):Bool:=match xs[j]? with|some t=>Sz k t|none=>false
theorem abw {α:Type} (p:α->Bool) (q:Nat->Bool) (xs:List α) (h:∀j (hj:j<xs.length),q j=p xs[j]):(List.range xs.length).all q=xs.all p:=by
 rw[Bool.eq_iff_iff,List.all_eq_true,List.all_eq_true]
 constructor
 ·intro g x hx
  obtain⟨j,hj,rfl⟩:=List.getElem_of_mem hx
  rw[←h j hj]
  exact g j (List.mem_range.2 hj)
 ·intro g j hj
  rw[h j (List.mem_range.1 hj)]
  exact g _ (List.getElem_mem _)
set_option maxHeartbeats 1000000 in
theorem Yh (k:ak) (xs:List iw) (v:Value) (pb mb cb co:Nat) (w:World) (h:PR w pb mb cb co k) (hv:bf 3 32 tu 0 w v xs) :
  Calls Tryz.prog 144 #[.pointer (some ⟨pb,0,none⟩),v] w (Ans (.bool (Nk k xs)) w):=by
 obtain⟨b0,c0,rfl⟩:=hv.shape
 have hlen:=hv.Fz
 have HQ:Hid ((List.range xs.length).all (qIt k xs)=xs.all (Sz k)):=abw _ _ _ (fun j hj=>by unfold qIt;rw[List.getElem?_eq_getElem hj])
 have HE:Hid (Calls Tryz.prog 147 #[.slice b0 xs.length c0,.func (.func 148) #[.pointer (some ⟨pb,0,none⟩)] #[]] w fun e w'=>e=.returned (.bool (xs.all (Sz k)))∧Below w.heap.size w w'):=by
  refine(ao3 pb (fun _ wr=>Below w.heap.size w wr) (fun wr=>Below w.heap.size w wr) (qIt k xs) xs _ w ?_ ?_ ?_ (Below.refl _ _)).mono ?_
  ·intro _ wr hb
   exact hv.stays og hb
  ·intro _ w1 w2 h1 h2
   exact h1.trans (h2.mono h1.size)
  ·intro j hj cs wr hb hR
   obtain⟨rfl,hs,_,_⟩:=hR
   refine(ak2 k xs[j] pb mb cb co wr (h.stays hb) hs).mono ?_
   rintro e w' ⟨rfl,hb'⟩
   have e1:qIt k xs j=Sz k xs[j]:=by unfold qIt;rw[List.getElem?_eq_getElem hj]
   rw[e1]
   have hb2:=hb.trans (hb'.mono hb.size)
   exact⟨rfl,(fun _=>hb2),fun _=>hb2⟩
  ·rintro e w' ⟨rfl,h1,h2⟩
   rw[uh HQ] at h1 h2 ⊢
   refine⟨rfl,?_⟩
   cases hh:xs.all (Sz k)
   ·exact h2 hh
   ·exact h1 hh
 have HV:=hide hv
 have HC:Hid (Nk k xs=(decide (xs.length<=6000)&&xs.all (Sz k)&&wk xs 0)):=rfl
 clear hv h HQ
 have HWK:Hid (∀w1,Below w.heap.size w w1->Calls Tryz.prog 149 #[.slice b0 xs.length c0] w1 (Ans (.bool (wk xs 0)) w1)):=fun w1 hb=>akp xs _ w1 ((uh HV).stays og hb)
 clear HV
 generalize Nk k xs=R at *
 generalize xs.all (Sz k)=ab at *
 generalize wk xs 0=kb at *
 by_cases h1:xs.length<=6000
 case neg =>
  have e1:decide ((xs.length:Int)<=6000)=false:=decide_eq_false (by omega)
  have HF:Hid (R=false):=(uh HC).trans (by rw[decide_eq_false h1];rfl)
  clear HC h1
  go_enter Tryz.func144,Tryz.ntmps144
  go_wp2
  go_ret
  exact⟨Ep (uh HF).symm,Below.refl _ _⟩
 have e1:decide ((xs.length:Int)<=6000)=true:=decide_eq_true (by omega)
 have HC2:Hid (R=(ab&&kb)):=(uh HC).trans (by rw[decide_eq_true h1,Bool.true_and])
 clear HC
 cases ab
 ·have HF:Hid (R=false):=(uh HC2).trans (Bool.false_and _)
  clear HC2
  go_enter Tryz.func144,Tryz.ntmps144
  go_wp2_with fail
  refine(uh HE).mono ?_
  rintro e w1 ⟨rfl,hb1⟩
  have HB1:=hide hb1
  clear hb1
  go_wp2
  go_ret
  exact⟨Ep (uh HF).symm,uh HB1⟩
 ·have HF:Hid (R=kb):=(uh HC2).trans (Bool.true_and _)
  clear HC2
  go_enter Tryz.func144,Tryz.ntmps144
  go_wp2_with fail
  refine(uh HE).mono ?_
  rintro e w1 ⟨rfl,hb1⟩
  have HB1:=hide hb1
  clear hb1
  go_wp2_with fail
  refine(uh HWK w1 (uh HB1)).mono ?_
  rintro e w2 ⟨rfl,hb2⟩
  have HB2:=hide ((uh HB1).trans (hb2.mono (uh HB1).size))
  clear hb2
  go_wp2
  go_ret
  exact⟨Ep (uh HF).symm,uh HB2⟩
def ahv (_:Nat) (_:World) (cs:List Value) (x:Nat × Nat):Prop:=cs=[.pointer (some ⟨x.1,0,none⟩),.int .i64 x.2]
structure BD where
 W0:World
 ks:List ak
 k:ak
 pb:Nat
 mb:Nat
 cb:Nat
 co:Nat
 a1:Value
 a2:Value
 a3:Value
 a4:Value
 a5:Value
 a6:Value
 iv:Value
 ins:List (Nat × Nat)
 known:List Int
 bb:Nat
 hb:Nat
 gb:Nat
 lo:Nat
 Wm:World
structure BE (X:BD):Prop where
 cls:CA X.Wm X.cb X.co X.k X.a1 X.a2 X.a3 X.a4 X.a5 X.a6
 p0:X.W0.cell? ⟨X.pb,0,none⟩=some (.pointer (some ⟨X.cb,X.co,none⟩))
 p1:X.W0.cell? ⟨X.pb,1,none⟩=some (.map (some X.mb))
 p2:X.W0.cell? ⟨X.pb,2,none⟩=some X.iv
 map:Ba X.W0 X.mb (varsOf X.k).length (vk (varsOf X.k))
 inl:X.ins.length=X.k.insts.length
 insts:bf 2 16 ahv 0 X.W0 X.iv X.ins
 callee:∀j (h:j<X.ins.length) (h':j<X.k.insts.length),∃gi g cb co b1 n1 b2 n2,X.k.insts[j]=((gi:Nat):Int)∧X.ks[gi]?=some g∧X.W0.cell? ⟨X.ins[j].1,0,none⟩=some (.pointer (some ⟨cb,co,none⟩))∧X.W0.cell? ⟨cb,co+1,none⟩=some (.slice b1 g.ins.length n1)∧X.W0.cell? ⟨cb,co+2,none⟩=some (.slice b2 g.outs.length n2)∧X.W0.cell? ⟨X.ins[j].1,5,none⟩=some (.int .i64 (X.known.getD gi 0))∧(0<=X.known.getD gi 0∧X.known.getD gi 0<=400000)∧g.ins.length<=1000∧g.outs.length<=1000
 vl:(varsOf X.k).length<=1000
 bl:X.k.body.length<=30000
 nb:X.W0.heap.size<=X.bb∧X.bb<X.lo
 nh:X.W0.heap.size<=X.hb∧X.hb<X.lo
 ng:X.W0.heap.size<=X.gb∧X.gb<X.lo
 bh:X.bb≠X.hb
 bg:X.bb≠X.gb
 hg:X.hb≠X.gb
 old:Below X.Wm.heap.size X.Wm X.W0
theorem BE.aan {X:BD} (hE:BE X):CA X.W0 X.cb X.co X.k X.a1 X.a2 X.a3 X.a4 X.a5 X.a6:=hE.cls.stays hE.old
def Tt (k:ak) (H:List ByteArray):Array Value:=((List.range (varsOf k).length).map (fun q=>Value.int .i64 (cnt k H q))).toArray
def ajk (X:BD) (nx:Nat):Array Value:=#[.pointer (some ⟨X.pb,0,none⟩),.int .i64 nx,.slice (some ⟨X.hb,0,none⟩) (varsOf X.k).length (varsOf X.k).length,.slice (some ⟨X.gb,0,none⟩) (varsOf X.k).length (varsOf X.k).length]
structure BS (X:BD) (w:World) (H:List ByteArray) (nx:Nat):Prop where
 old:Below X.W0.heap.size X.W0 w
 lo:X.lo<=w.heap.size
 nxl:nx<=X.k.body.length
 bl:au w X.bb 159 (ajk X nx)
 hl:au w X.hb 3 (Tt X.k H)
 gl:∃gv:List Int,gv.length=(varsOf X.k).length∧(∀x,x∈gv->0<=x∧x<=nx)∧au w X.gb 3 (gv.map (Value.int .i64)).toArray
theorem BS.stays {X:BD} {w w':World} {H:List ByteArray} {nx:Nat} (h:BS X w H nx) (hb:Below w.heap.size w w'):BS X w' H nx:=by
 obtain⟨gv,g1,g2,g3⟩:=h.gl
 exact⟨h.old.trans (hb.mono h.old.size),Nat.le_trans h.lo hb.size,h.nxl,h.bl.below hb h.bl.lt,h.hl.below hb h.hl.lt,gv,g1,g2,g3.below hb g3.lt⟩
theorem BS.Pj {X:BD} {w:World} {H:List ByteArray} {nx:Nat} (h:BS X w H nx) (hE:BE X):Below X.Wm.heap.size X.Wm w:=hE.old.trans (h.old.mono hE.old.size)
theorem BE.pr {X:BD} (hE:BE X):PR X.W0 X.pb X.mb X.cb X.co X.k:=by
 obtain⟨b,c,hh⟩:=hE.aan.aj.shape
 exact⟨hE.p0,hE.p1,⟨b,c,by rw[hE.aan.c4,hh]⟩,hE.aan.aj.Fz,hE.map⟩
structure BC (X:BD) (w:World) (nx:Nat):Prop where
 b0:w.cell? ⟨X.bb,0,none⟩=some (.pointer (some ⟨X.pb,0,none⟩))
 b1:w.cell? ⟨X.bb,1,none⟩=some (.int .i64 nx)
 b2:w.cell? ⟨X.bb,2,none⟩=some (.slice (some ⟨X.hb,0,none⟩) (varsOf X.k).length (varsOf X.k).length)
 b3:w.cell? ⟨X.bb,3,none⟩=some (.slice (some ⟨X.gb,0,none⟩) (varsOf X.k).length (varsOf X.k).length)
 p0:w.cell? ⟨X.pb,0,none⟩=some (.pointer (some ⟨X.cb,X.co,none⟩))
 p1:w.cell? ⟨X.pb,1,none⟩=some (.map (some X.mb))
 p2:w.cell? ⟨X.pb,2,none⟩=some X.iv
 c1:w.cell? ⟨X.cb,X.co+1,none⟩=some X.a1
 c4:w.cell? ⟨X.cb,X.co+4,none⟩=some X.a4
 c6:w.cell? ⟨X.cb,X.co+6,none⟩=some X.a6
theorem BS.cells {X:BD} (hE:BE X) {w:World} {H:List ByteArray} {nx:Nat} (h:BS X w H nx):BC X w nx :=
 have hp:=World.block_lt_of_cell? X.W0 _ hE.p0
 ⟨h.bl.cell (i:=0) rfl,h.bl.cell (i:=1) rfl,h.bl.cell (i:=2) rfl,h.bl.cell (i:=3) rfl,(h.old.cell (p:=⟨X.pb,0,none⟩) hp).trans hE.p0,(h.old.cell (p:=⟨X.pb,1,none⟩) hp).trans hE.p1,(h.old.cell (p:=⟨X.pb,2,none⟩) hp).trans hE.p2,(h.old.cell (p:=⟨X.cb,X.co+1,none⟩) hE.aan.lt).trans hE.aan.c1,(h.old.cell (p:=⟨X.cb,X.co+4,none⟩) hE.aan.lt).trans hE.aan.c4,(h.old.cell (p:=⟨X.cb,X.co+6,none⟩) hE.aan.lt).trans hE.aan.c6⟩
theorem BS.held {X:BD} {w:World} {H:List ByteArray} {nx:Nat} (h:BS X w H nx) (q:Nat) (hq:q<(varsOf X.k).length):w.cell? ⟨X.hb,q,none⟩=some (.int .i64 (cnt X.k H q)) :=
 h.hl.cell (i:=q) (v:=.int .i64 (cnt X.k H q)) (by unfold Tt;simp[hq])
def tgI (k:ak) (x:ByteArray):Int:=if 0<=iy (varsOf k) x then iy (varsOf k) x else 0
theorem ae5 {a b:Int} {p q:Bool} (h:a=b) (g:p=q):Ending.returned (.tuple #[.int .i64 a,.bool p])=.returned (.tuple #[.int .i64 b,.bool q]):=by rw[h,g]
set_option maxHeartbeats 1000000 in
theorem agy (X:BD) (hE:BE X) (H:List ByteArray) (nx:Nat) (w:World) (hS:BS X w H nx) (x:ByteArray) (hx:Len x.size) :
  Calls Tryz.prog 143 #[.pointer (some ⟨X.bb,0,none⟩),.string x] w fun e w'=>e=.returned (.tuple #[.int .i64 (tgI X.k x),.bool (Vh X.k H x)])∧Below w.heap.size w w':=by
 have hx':x.size<=maxLen:=by unfold Len at hx;unfold maxLen;omega
 have hC:=hS.cells hE
 obtain⟨b0,b1,b2,b3,p0,p1,p2,c1,c4,c6⟩:=hC
 clear b1 b3 p2 c4 c6
 obtain⟨i1,n1,h1⟩:=hE.cls.ins.shape
 rw[h1] at c1
 have hil:=hE.cls.ins.Fz
 have hvl:=hE.vl
 have hM:Ba w X.mb (varsOf X.k).length (vk (varsOf X.k)):=hE.map.below hS.old hE.map.lt
 have Us:=hide (fun q hq=>hS.held q hq)
 clear hE hS h1
 have hbd:=O6 (varsOf X.k) x
 by_cases hp:0<=iy (varsOf X.k) x
 case neg =>
  have hlk:=hM.miss Tryz.underlying9 Tryz.underlying93 (Qb w) hx' (Yf _ _ (by omega))
  have HT:Hid (tgI X.k x=0):=if_neg hp
  have HB:Hid (Vh X.k H x=false):=by
   refine hide ?_
   unfold Vh setB
   rw[decide_eq_false (by omega),Bool.false_and]
  generalize tgI X.k x=ti at *
  generalize Vh X.k H x=tb at *
  clear hM hp hbd Us
  go_enter Tryz.func143,Tryz.ntmps143
  go_wp2_with fail
  go_quiet ((fail))
  go_wp2
  go_ret2
  exact⟨ae5 (uh HT).symm (uh HB).symm,jw _ _⟩
 have hlk:=hM.hit Tryz.underlying9 Tryz.underlying93 (Qb w) hx' (aaf _ _ hp)
 have HT:Hid (tgI X.k x=iy (varsOf X.k) x):=if_pos hp
 have HB:Hid (Vh X.k H x=(decide ((X.k.ins.length:Int)<=iy (varsOf X.k) x)&&decide (cnt X.k H (iy (varsOf X.k) x).toNat=0))):=rfl
 generalize tgI X.k x=ti at *
 generalize Vh X.k H x=tb at *
 obtain⟨q,hq⟩:=Int.eq_ofNat_of_zero_le hp
 rw[hq] at HT HB hlk hbd
 clear hq hp hM
 have hqn:q<(varsOf X.k).length:=by omega
 have h0:=uh Us q hqn
 rw[Int.toNat_natCast] at HB
 generalize cnt X.k H q=cq at *
 generalize (varsOf X.k).length=vn at *
 clear Us
 by_cases h2:X.k.ins.length<=q
 case neg =>
  have e2:decide ((X.k.ins.length:Int)<=(q:Int))=false:=decide_eq_false (by omega)
  have e2n:decide (X.k.ins.length<=q)=false:=decide_eq_false h2
  have HF:Hid (tb=false):=(uh HB).trans (by rw[e2];rfl)
  clear HB h2
  go_enter Tryz.func143,Tryz.ntmps143
  go_wp2_with fail
  go_quiet ((fail))
  go_wp2
  go_ret2
  exact⟨ae5 (uh HT).symm (uh HF).symm,jw _ _⟩
 have e2:decide ((X.k.ins.length:Int)<=(q:Int))=true:=decide_eq_true (by omega)
 have e2n:decide (X.k.ins.length<=q)=true:=decide_eq_true h2
 have HB2:Hid (tb=decide (cq=0)):=(uh HB).trans (by rw[e2];rfl)
 clear HB h2
 by_cases h3:cq=0
 ·have e3:((cq:Int) == 0)=true:=by rw[beq_iff_eq];omega
  have HF:Hid (tb=true):=(uh HB2).trans (decide_eq_true h3)
  clear HB2 h3
  go_enter Tryz.func143,Tryz.ntmps143
  go_wp2_with fail
  go_quiet ((fail))
  go_wp2
  go_ret2
  exact⟨ae5 (uh HT).symm (uh HF).symm,jw _ _⟩
 ·have e3:((cq:Int) == 0)=false:=by rw[beq_eq_false_iff_ne];omega
  have HF:Hid (tb=false):=(uh HB2).trans (decide_eq_false h3)
  clear HB2 h3
  go_enter Tryz.func143,Tryz.ntmps143
  go_wp2_with fail
  go_quiet ((fail))
  go_wp2
  go_ret2
  exact⟨ae5 (uh HT).symm (uh HF).symm,jw _ _⟩
end Go.Proofs.YtlcgnbcgmljpaaaGreat
