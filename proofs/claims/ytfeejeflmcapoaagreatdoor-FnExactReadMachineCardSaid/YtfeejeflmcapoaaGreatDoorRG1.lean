import Derived.Test.YtfeejeflmcapoaaGreatDoorPM0
set_option linter.unusedSimpArgs false
set_option linter.unusedVariables false
set_option maxHeartbeats 2000000
namespace Go.Proofs.YtfeejeflmcapoaaGreatDoor
open Go.RowKit
def cutAt {α:Type} [DecidableEq α] (c:α):List α->List (List α)
 | []=>[[]]
 | x::l=>if x=c then []::cutAt c l else (x::(cutAt c l).headD [])::(cutAt c l).tail
section
variable {α:Type} [DecidableEq α]
theorem abw (c:α) (l:List α):cutAt c l≠[]:=by
 cases l with
 | nil=>simp[cutAt]
 | cons x l=>unfold cutAt;split<;>simp
theorem Uh (c:α) (l:List α):cutAt c l=(cutAt c l).headD []::(cutAt c l).tail:=by
 cases h:cutAt c l with
 | nil=>exact absurd h (abw c l)
 | cons a b=>rfl
theorem amh (c:α) (a l:List α) (h:c∉a):cutAt c (a++l)=(a++(cutAt c l).headD [])::(cutAt c l).tail:=by
 induction a with
 | nil=>exact Uh c l
 | cons x a ih =>
  have hx:x≠c:=fun e=>h (by simp[e])
  rw[Fe,cutAt,ay hx,ih (fun h9=>h (G8 _ h9))];rfl
theorem Ur (c:α) (a:List α) (h:c∉a):cutAt c a=[a]:=by
 have h9:=amh c a [] h;simpa[cutAt] using h9
theorem Yr (c:α) (a l:List α) (h:c∉a):cutAt c (a++c::l)=a::cutAt c l:=by
 rw[amh c a _ h,cutAt,gu rfl];simp
theorem af2 (c:α) (l:List α):(cutAt c l).length<=l.length+1∧((cutAt c l).map (fun p=>p.length+1)).sum=l.length+1:=by
 induction l with
 | nil=>exact⟨gq _,rfl⟩
 | cons x l ih =>
  unfold cutAt;have e:=Uh c l;rw[e] at ih
  split
  ·simp only[uf,Ap,List.sum_cons,A8] at ih ⊢
   rw[e];simp only[uf,Ap,List.sum_cons] at ih ⊢;omega
  ·simp only[uf,Ap,List.sum_cons] at ih ⊢
   omega
end
def bL (s:dh):List UInt8:=s.data.toList
def Qv (l:List UInt8):dh:=⟨l.toArray⟩
theorem U2 (s:dh):Qv (bL s)=s:=by cases s;simp[Qv,bL]
theorem Zi (l:List UInt8):bL (Qv l)=l:=by simp[Qv,bL]
theorem Rn (a b:dh):bL (a++b)=bL a++bL b:=by simp[bL,ByteArray.data_append]
theorem Ez (s:dh):(bL s).length=s.size:=by
 unfold bL;rw[Array.length_toList];rfl
def wordsOf (c:UInt8) (s:dh):List dh:=(cutAt c (bL s)).map Qv
theorem Aj (c:UInt8) (s:dh):wordsOf c s≠[]:=by
 unfold wordsOf;simpa using abw c (bL s)
theorem yg (c:UInt8) (s:dh):(wordsOf c s).length<=s.size+1∧((wordsOf c s).map (fun p=>p.size+1)).sum=s.size+1:=by
 have h:=af2 c (bL s);rw[Ez] at h;unfold wordsOf;refine⟨by simpa using h.1,?_⟩;rw[List.map_map]
 have e:((fun p:dh=>p.size+1) ∘ Qv)=fun p:List UInt8=>p.length+1:=by
  funext p;show (Qv p).size+1=_;rw[←Ez,Zi]
 rw[e];exact h.2
theorem aro (ps:List dh):(ps.map bL).map Qv=ps:=by
 rw[List.map_map];have e:Qv ∘ bL=id:=by funext s;exact U2 s
 rw[e,List.map_id]
theorem a0f (ls:List dh) (h:∀l,l∈ls->10∉bL l):wordsOf 10 (Gi ls)=ls++[⟨#[]⟩]:=by
 have key:cutAt 10 (bL (Gi ls))=ls.map bL++[[]]:=by
  induction ls with
  | nil=>rfl
  | cons l ls ih =>
   have e:bL (Gi (l::ls))=bL l++10::bL (Gi ls):=by
    rw[Gi,Rn,Rn];rfl
   rw[e,Yr _ _ _ (h l (H7 ..)),ih (fun x hx=>h x (G8 _ hx))];rfl
 unfold wordsOf;rw[key,Il,aro];rfl
theorem aby (ps:List dh) (hne:ps≠[]) (h:∀p,p∈ps->32∉bL p):wordsOf 32 (oh ps)=ps:=by
 have key:cutAt 32 (bL (Fq Lsp ps))=ps.map bL:=by
  induction ps with
  | nil=>exact absurd rfl hne
  | cons p ps ih =>
   by_cases e:ps=[]
   ·subst e
    rw[O1,Ur _ _ (h p (H7 ..))];rfl
   ·rw[Jq _ _ _ e,Rn,Rn,show bL Lsp++bL (Fq Lsp ps)=32::bL (Fq Lsp ps) from rfl,Yr _ _ _ (h p (H7 ..)),ih e (fun x hx=>h x (G8 _ hx))]
    rfl
 unfold wordsOf oh;rw[key,aro]
def V4 (b:UInt8):Bool:=decide (48<=b.toNat∧b.toNat<=57)
def Rz (l:List UInt8):Nat:=l.foldl (fun n b=>if V4 b=true∧n<=2147483647 then n*10+(b.toNat-48) else n) 0
def Bo (s:dh):Int:=if (bL s).head?=some 45 then -(Rz (bL s):Int) else (Rz (bL s):Int)
theorem agk (l:List UInt8) (b:UInt8):Rz (l++[b])=if V4 b=true∧Rz l<=2147483647 then Rz l*10+(b.toNat-48) else Rz l:=by
 unfold Rz;rw[J3];rfl
theorem Yt (d:Nat) (h:d<10):(UInt8.ofNat (48+d)).toNat=48+d:=by
 rw[UInt8.toNat_ofNat'];omega
theorem apb:∀(u:Nat),u<=4294967296->Rz (Lib.decDigits u)=u:=by
 intro u
 induction u using Nat.strongRecOn with
 | ind u ih =>
  intro h;rw[Lib.decDigits]
  by_cases c:u<10
  ·rw[dif_pos c]
   have h9:=agk [] (UInt8.ofNat (48+u));rw[Gu] at h9;rw[h9];unfold V4;rw[Yt u c,gu ⟨jf ⟨by omega,by omega⟩,by simp[Rz]⟩];simp[Rz]
  ·rw[dif_neg c,agk,ih (u / 10) (by omega) (by omega)]
   unfold V4;rw[Yt (u % 10) (by omega),gu ⟨jf ⟨by omega,by omega⟩,by omega⟩];omega
theorem V5 (u:Nat):∃b l,Lib.decDigits u=b::l∧V4 b=true∧∀x,x∈Lib.decDigits u->V4 x=true:=by
 induction u using Nat.strongRecOn with
 | ind u ih =>
  rw[Lib.decDigits]
  by_cases c:u<10
  ·rw[dif_pos c]
   have hd:V4 (UInt8.ofNat (48+u))=true:=by
    unfold V4;rw[Yt u c];exact jf ⟨by omega,by omega⟩
   exact⟨_,_,rfl,hd,fun x hx=>by rw[yj] at hx;rw[hx];exact hd⟩
  ·rw[dif_neg c]
   obtain⟨b,l,h1,h2,h3⟩:=ih (u / 10) (by omega)
   have hd:V4 (UInt8.ofNat (48+u % 10))=true:=by
    unfold V4;rw[Yt _ (by omega)];exact jf ⟨by omega,by omega⟩
   refine⟨b,l++[UInt8.ofNat (48+u % 10)],by rw[h1];rfl,h2,fun x hx=>?_⟩;rcases Ec.1 hx with h4|h4
   ·exact h3 x h4
   ·rw[yj] at h4;rw[h4];exact hd
theorem ad7 (v:Int):bL (qm v)=Lib.itoa v:=by simp[bL,qm]
theorem abz (v:Int) (h:Oh v):Bo (qm v)=v:=by
 unfold Oh at h;unfold Bo;rw[ad7];unfold Lib.itoa
 by_cases c:v<0
 ·rw[gu c]
  have e:Rz (45::Lib.decDigits v.natAbs)=Rz (Lib.decDigits v.natAbs):=rfl;rw[gu (show (45::Lib.decDigits v.natAbs).head?=some 45 from rfl),e,apb _ (by omega)];omega
 ·rw[ay c]
  obtain⟨b,l,h1,h2,_⟩:=V5 v.toNat
  have hb:¬(Lib.decDigits v.toNat).head?=some 45:=by
   rw[h1];intro h9;have h8:b=45:=by simpa using h9
   rw[h8] at h2;exact absurd h2 (by decide)
  rw[ay hb,apb _ (by omega)];omega
theorem ad8 (v:Int) (c:UInt8) (h:V4 c=false) (h45:c≠45):c∉bL (qm v):=by
 rw[ad7];unfold Lib.itoa;intro hm
 split at hm
 ·obtain⟨b,l,_,_,h3⟩:=V5 v.natAbs
  rcases ql.1 hm with e|e
  ·exact h45 e
  ·rw[h3 c e] at h;cases h
 ·obtain⟨b,l,_,_,h3⟩:=V5 v.toNat
  rw[h3 c hm] at h;cases h
def E0:dh:=⟨#[]⟩
def Dq (i:Nat):dh:=partT ⟨(i:Int)+4,0,E0⟩
def Ko (s:dh):dh:=Qv ((bL s).drop 1)
def Jg (p:dh):ku :=
 match (List.range 17).find? (fun i=>decide (Dq i=p)) with
 | some i=>⟨(i:Int)+4,0,E0⟩
 | none=>if p=N9 then ⟨2,1,E0⟩ else if p=J5 then ⟨2,0,E0⟩ else if (bL p).head?=some 46 then ⟨3,0,Ko p⟩ else if (bL p).head?=some 64 then ⟨25,Bo (Ko p),E0⟩ else ⟨1,Bo p,E0⟩
structure S9 (t:ku):Prop where
 op:(1<=t.op∧t.op<=20)∨t.op=25
 num:t.op=1->0<=t.val∧t.val<=2147483647
 tru:t.op=2->t.val=0∨t.val=1
 cell:t.op=25->0<=t.val∧t.val<=1000
 am7:t.op=3∨(4<=t.op∧t.op<=20)->t.val=0
 Yb:t.op≠3->t.name=E0
 name:t.op=3->∀b,b∈bL t.name->b≠32∧b≠10∧b≠44
def a1e:List UInt8->Bool
 | []=>false
 | b::_=>!V4 b&&(decide (b≠46)&&decide (b≠64))
theorem apc:∀i:Fin 17,a1e (bL (Dq i.val))=true:=by decide +kernel
theorem aiv (p:dh) (b:UInt8) (l:List UInt8) (hp:bL p=b::l) (h:V4 b=true∨b=46∨b=64):∀i,i<17->Dq i≠p:=fun i hi e=>by
 have h9:=apc ⟨i,hi⟩;simp only at h9;rw[e,hp] at h9;simp only[a1e,uq,Bool.not_eq_true',decide_eq_true_eq] at h9;rcases h with h|h|h
 ·rw[h9.1] at h;cases h
 ·exact h9.2.1 h
 ·exact h9.2.2 h
theorem ab7:∀i:Fin 17,(32∉bL (Dq i.val)∧10∉bL (Dq i.val))∧Dq i.val≠Cb∧Dq i.val≠N9∧Dq i.val≠J5:=by decide +kernel
theorem axi:∀i:Fin 17,Dq i.val≠ou:=by decide +kernel
theorem aj3:∀i:Fin 17,(List.range 17).find? (fun j=>decide (Dq j=Dq i.val))=some i.val:=by decide +kernel
theorem Us (p:dh) (h:∀i,i<17->Dq i≠p):(List.range 17).find? (fun i=>decide (Dq i=p))=none:=by
 rw[List.find?_eq_none];intro i hi;simpa using h i (uw.1 hi)
theorem ak4 (t:ku) (h:4<=t.op∧t.op<=20):∃i:Nat,i<17∧t.op=(i:Int)+4∧partT t=Dq i:=by
 refine⟨(t.op-4).toNat,by omega,by omega,?_⟩;have e:(((t.op-4).toNat:Int)+4)=t.op:=by omega
 unfold Dq partT;rw[e];simp only;rw[ay (show ¬t.op=1 by omega),ay (show ¬t.op=2 by omega),ay (show ¬t.op=3 by omega),ay (show ¬t.op=25 by omega),ay (show ¬t.op=1 by omega),ay (show ¬t.op=2 by omega),ay (show ¬t.op=3 by omega),ay (show ¬t.op=25 by omega)]
theorem auc (t:ku) (h:S9 t):Jg (partT t)=t:=by
 obtain⟨op,val,name⟩:=t;unfold Jg;rcases h.op with h1|h1
 case inr =>
  simp only at h1;subst h1;have hn:=h.Yb (show ¬(25:Int)=3 by decide);have hc:=h.cell rfl;simp only at hn hc;have e:partT ⟨25,val,name⟩=Wat++qm val:=rfl;have eb:bL (Wat++qm val)=64::bL (qm val):=by rw[Rn];rfl
  rw[e,Us _ (aiv _ _ _ eb (Or.inr (Or.inr rfl)))];have n1:¬Wat++qm val=N9:=fun h9=>by have h8:=mg bL h9;rw[eb] at h8;exact absurd (List.cons.inj h8).1 (by decide)
  have n2:¬Wat++qm val=J5:=fun h9=>by have h8:=mg bL h9;rw[eb] at h8;exact absurd (List.cons.inj h8).1 (by decide)
  simp only;rw[ay n1,ay n2,eb,ay (show ¬(64::bL (qm val)).head?=some 46 from fun h9=>absurd (G9 h9) (by decide)),gu (show (64::bL (qm val)).head?=some 64 from rfl),show Ko (Wat++qm val)=qm val from by unfold Ko;rw[eb];exact U2 _,abz _ (by unfold Oh;omega),hn]
 by_cases c1:op=1
 ·subst c1
  have hn:=h.Yb (show ¬(1:Int)=3 by decide);have hc:=h.num rfl;simp only at hn hc;have e:partT ⟨1,val,name⟩=qm val:=rfl;obtain⟨b,l,g1,g2,_⟩:=V5 val.toNat;have eb:bL (qm val)=b::l:=by rw[ad7];unfold Lib.itoa;rw[ay (by omega),g1]
  rw[e,Us _ (aiv _ _ _ eb (Or.inl g2))]
  have n1:¬qm val=N9:=fun h9=>by
   have h8:=mg bL h9;rw[eb] at h8;rw[(List.cons.inj h8).1] at g2;exact absurd g2 (by decide)
  have n2:¬qm val=J5:=fun h9=>by
   have h8:=mg bL h9;rw[eb] at h8;rw[(List.cons.inj h8).1] at g2;exact absurd g2 (by decide)
  have n3:¬(bL (qm val)).head?=some 46:=by
   rw[eb];intro h9;have h8:b=46:=by simpa using h9
   rw[h8] at g2;exact absurd g2 (by decide)
  have n4:¬(bL (qm val)).head?=some 64:=by
   rw[eb];intro h9;have h8:b=64:=by simpa using h9
   rw[h8] at g2;exact absurd g2 (by decide)
  simp only;rw[ay n1,ay n2,ay n3,ay n4,abz _ (by unfold Oh;omega),hn]
 by_cases c2:op=2
 ·subst c2
  have hn:=h.Yb (show ¬(2:Int)=3 by decide);simp only at hn;rcases h.tru rfl with hv|hv
  ·simp only at hv
   subst hv hn;have e:partT ⟨2,0,E0⟩=J5:=rfl;rw[e,Us _ (fun i hi=>(ab7 ⟨i,hi⟩).2.2.2)];show (if J5=N9 then _ else if J5=J5 then _ else _)=_;rw[ay (by decide),gu rfl]
  ·simp only at hv
   subst hv hn;have e:partT ⟨2,1,E0⟩=N9:=rfl;rw[e,Us _ (fun i hi=>(ab7 ⟨i,hi⟩).2.2.1)];show (if N9=N9 then _ else _)=_;rw[gu rfl]
 by_cases c3:op=3
 ·subst c3
  have hv:=h.am7 (Or.inl rfl);simp only at hv;subst hv;have e:partT ⟨3,0,name⟩=Zf++name:=rfl;have eb:bL (Zf++name)=46::bL name:=by rw[Rn];rfl
  rw[e,Us _ (aiv _ _ _ eb (Or.inr (Or.inl rfl)))];have n1:¬Zf++name=N9:=fun h9=>by have h8:=mg bL h9;rw[eb] at h8;exact absurd (List.cons.inj h8).1 (by decide)
  have n2:¬Zf++name=J5:=fun h9=>by have h8:=mg bL h9;rw[eb] at h8;exact absurd (List.cons.inj h8).1 (by decide)
  simp only;rw[ay n1,ay n2,eb,gu (show (46::bL name).head?=some 46 from rfl),show Ko (Zf++name)=name from by unfold Ko;rw[eb];exact U2 _]
 ·have hr:4<=op∧op<=20:=by simp only at h1;omega
  obtain⟨i,hi,ho,hp⟩:=ak4 ⟨op,val,name⟩ hr;have hv:=h.am7 (Or.inr hr);have hn:=h.Yb c3;simp only at ho hv hn;rw[hp,aj3 ⟨i,hi⟩];simp only;rw[←ho,hv,hn]
theorem a5w (t:ku) (h:S9 t):(32∉bL (partT t)∧10∉bL (partT t))∧partT t≠Cb∧partT t≠ou:=by
 obtain⟨op,val,name⟩:=t;have dno:∀v:Int,32∉bL (qm v)∧10∉bL (qm v):=fun v=>⟨ad8 v 32 (by decide) (by decide),ad8 v 10 (by decide) (by decide)⟩
 rcases h.op with h1|h1
 case inr =>
  simp only at h1;subst h1;have e:partT ⟨25,val,name⟩=Wat++qm val:=rfl;have eb:bL (Wat++qm val)=64::bL (qm val):=by rw[Rn];rfl
  rw[e];refine⟨by rw[eb];simp[dno val],fun h9=>?_,fun h9=>?_⟩
  ·have h8:=mg bL h9;rw[eb] at h8;exact absurd (List.cons.inj h8).1 (by decide)
  ·have h8:=mg bL h9;rw[eb] at h8;exact absurd (List.cons.inj h8).1 (by decide)
 by_cases c1:op=1
 ·subst c1
  have hc:=h.num rfl;simp only at hc;have e:partT ⟨1,val,name⟩=qm val:=rfl;obtain⟨b,l,g1,g2,_⟩:=V5 val.toNat;have eb:bL (qm val)=b::l:=by rw[ad7];unfold Lib.itoa;rw[ay (by omega),g1]
  rw[e];refine⟨dno val,fun h9=>?_,fun h9=>?_⟩
  ·have h8:=mg bL h9;rw[eb] at h8;rw[(List.cons.inj h8).1] at g2;exact absurd g2 (by decide)
  ·have h8:=mg bL h9;rw[eb] at h8;rw[(List.cons.inj h8).1] at g2;exact absurd g2 (by decide)
 by_cases c2:op=2
 ·subst c2
  have e:partT ⟨2,val,name⟩=flT val:=rfl;rw[e];unfold flT
  split<;>decide
 by_cases c3:op=3
 ·subst c3
  have hb:=h.name rfl;simp only at hb;have e:partT ⟨3,val,name⟩=Zf++name:=rfl;have eb:bL (Zf++name)=46::bL name:=by rw[Rn];rfl
  rw[e];refine⟨by rw[eb];exact⟨fun h9=>by rcases ql.1 h9 with h8|h8;exact absurd h8 (by decide);exact(hb _ h8).1 rfl,fun h9=>by rcases ql.1 h9 with h8|h8;exact absurd h8 (by decide);exact(hb _ h8).2.1 rfl⟩,fun h9=>?_,fun h9=>?_⟩
  ·have h8:=mg bL h9;rw[eb] at h8;exact absurd (List.cons.inj h8).1 (by decide)
  ·have h8:=mg bL h9;rw[eb] at h8;exact absurd (List.cons.inj h8).1 (by decide)
 ·have hr:4<=op∧op<=20:=by simp only at h1;omega
  obtain⟨i,hi,ho,hp⟩:=ak4 ⟨op,val,name⟩ hr;rw[hp];exact⟨(ab7 ⟨i,hi⟩).1,(ab7 ⟨i,hi⟩).2.1,axi ⟨i,hi⟩⟩
structure F6 (P:Program) (α:Type) where
 T:TypeId
 ST:TypeId
 sz:Nat
 qy:Nat
 f:α->List Value
 z:Value
 hT:P.underlying ST=some (.slice T)
 hi:(P.info? T).map (fun i=>(i.zero,i.size,i.bytes))=some (some z,sz,qy)
 hz:z.cells.size=sz
 hf:∀x,(f x).length=sz
 h1:∀x u,u∈f x->u.oneCell'=true
 hsz:0<sz
 hby:0<qy
theorem flat_get {α β:Type} (f:α->List β) (sz:Nat) (hf:∀x,(f x).length=sz):∀(xs:List α) (i:Nat) (hi:i<xs.length) (j:Nat),j<sz->(xs.flatMap f)[i*sz+j]?=(f xs[i])[j]?
 | x::xs,0,_,j,hj=>by
  rw[List.flatMap_cons,Nat.zero_mul,Bh,List.getElem?_append_left (by rw[hf];exact hj)];rfl
 | x::xs,i+1,hi,j,hj=>by
  rw[List.flatMap_cons,Ux (by rw[hf,Nat.add_mul];omega),hf];have e:(i+1)*sz+j-sz=i*sz+j:=by rw[Nat.add_mul];omega
  rw[e,flat_get f sz hf xs i (by simpa using hi) j hj];rfl
theorem Rx {α β:Type} (f:α->List β) (sz:Nat) (hf:∀x,(f x).length=sz):∀(xs:List α),(xs.flatMap f).length=xs.length*sz
 | []=>by simp
 | x::xs=>by
  rw[List.flatMap_cons,je,hf,Rx f sz hf xs,uf,Nat.add_mul];omega
section
variable {P:Program} {α:Type} (E:F6 P α)
def jm (w:bf) (base:Nat) (v:Value) (xs:List α):Prop:=w.ownsRow base E.T E.sz v xs.length (xs.flatMap E.f)
variable {E}
theorem jm.nil (w:bf) (base:Nat):jm E w base (.slice none 0 0) []:=⟨by simp,Or.inl ⟨rfl,rfl⟩⟩
theorem jm.start (w:bf) (base:Nat) (hb:base<=w.heap.size):jm E (w.alloc (.cells #[] E.T)) base (.slice (some ⟨w.heap.size,0,none⟩) 0 0) [] :=
 ⟨by simp,Or.inr ⟨_,_,#[],rfl,hb,Deep.blk_alloc_new _ _,gq _,jg _,by simp,by simp⟩⟩
theorem jm.below {w w':bf} {base:Nat} {v:Value} {xs:List α} (h:jm E w base v xs) (hb:Below w.heap.size w w'):jm E w' base v xs:=by
 obtain⟨h1,h2⟩:=h;refine⟨h1,?_⟩;rcases h2 with h2|⟨g,cap,cur,hv,hg,hh,r⟩
 ·exact Or.inl h2
 ·exact Or.inr ⟨g,cap,cur,hv,hg,(hb.block g (Jk.1 hh).1).trans hh,r⟩
theorem jm.shape {w:bf} {base:Nat} {v:Value} {xs:List α} (h:jm E w base v xs):(v=.slice none 0 0∧xs=[])∨∃g cap,v=.slice (some ⟨g,0,none⟩) xs.length cap∧base<=g∧g<w.heap.size∧xs.length<=cap:=by
 obtain⟨_,h2⟩:=h;rcases h2 with ⟨rfl,h2⟩|⟨g,cap,cur,hv,hg,hh,hc,_⟩
 ·exact Or.inl ⟨rfl,Qe h2⟩
 ·exact Or.inr ⟨g,cap,hv,hg,(Jk.1 hh).1,hc⟩
theorem jm.slice {w:bf} {base:Nat} {v:Value} {xs:List α} (h:jm E w base v xs):∃a cap,v=.slice a xs.length cap:=by
 rcases h.shape with ⟨rfl,rfl⟩|⟨g,cap,rfl,_⟩
 ·exact⟨_,_,rfl⟩
 ·exact⟨_,_,rfl⟩
theorem jm.block {w:bf} {base:Nat} {v:Value} {xs:List α} (h:jm E w base v xs):∀g,v.ownBlock=some g->base<=g:=by
 rcases h.shape with ⟨rfl,rfl⟩|⟨g,cap,rfl,hb,_⟩
 ·intro g hg;cases hg
 ·intro g' hg;cases hg;exact hb
theorem jm.grown {w0 w w':bf} {B base:Nat} {v:Value} {xs:List α} (h:jm E w base v xs) (hb:Below B w0 w) (hg:w.grownBy w' v.ownBlock) (hB:B<=w.heap.size) (hr:B<=base):Below B w0 w' :=
 hb.grown hg hB (fun k e=>jq hr (h.block k e))
theorem jm.at {R:Nat->bf->List Value->α->Prop} {w:bf} {base:Nat} {v:Value} {xs:List α} (h:jm E w base v xs) (hR:∀x,x∈xs->R 0 w (E.f x) x) (hn:xs.length*E.qy<=140737488355328):iy E.sz E.qy R 0 w v xs:=by
 have hlen:xs.length<=140737488355328:=jq (Xe _ E.hby) hn;have h':=h;rcases h.shape with ⟨rfl,rfl⟩|⟨g,cap,rfl,hb,hlt,hcap⟩
 ·exact⟨none,0,rfl,⟨by simp[Len],gq _⟩,by simp[Len],fun i hi=>absurd hi (yt _)⟩
 ·refine⟨_,cap,rfl,⟨hn,hcap⟩,hlen,fun i hi=>⟨g,0,E.f xs[i],rfl,jg _,hlt,E.hf _,fun j hj=>?_,hR _ (pz hi)⟩⟩
  have hjs:j<E.sz:=by rw[←E.hf xs[i]];exact hj
  have:=World.ownsRow.cells h' (g:=g) rfl (i*E.sz+j) (E.f xs[i])[j] (by rw[flat_get E.f E.sz E.hf xs i hi j hjs];simp[hj]);rw[Addr.add_lit] at this;rw[←this];congr 2;omega
theorem Au (E:F6 P α) (w:bf) {ops:Array Oper} {rest:List Oper} {o:Oper} {a:Act} {Q:Exit->Act->bf->Prop} (hgd:o.guard=none) (s x:Operand)
  (ho:o.op=.call { callee:=.builtin .append,args:=#[s,x],argTypes:=#[E.ST,E.ST] })
  (base:Nat) (v:Value) (xs:List α) (hs:a.eval s=v) (hown:jm E w base v xs)
  (eb:Nat) (y:α) (hx:a.eval x=.slice (some ⟨eb,0,none⟩) 1 1) (hy:∀j u,(E.f y)[j]?=some u->w.cell? ⟨eb,j,none⟩=some u) (hb:(xs.length+1)*E.qy<=140737488355328) (hbase:base<=w.heap.size)
  (h:∀v' w',jm E w' base v' (xs++[y])->w.grownBy w' v.ownBlock->wpList P ops Q rest (a.put o.dst v') w'):wpList P ops Q (o::rest) a w:=by
 obtain⟨i,hi,hz0,hz1,hz2⟩:=info_parts E.hi;have hlen:xs.length+1<=140737488355328:=jq (Xe _ E.hby) hb;refine wpList_append_own w hgd s x E.ST ho base E.T i _ E.sz E.qy E.hT hi hz0 hz1 hz2 E.hz E.hsz v xs.length (xs.flatMap E.f) hs hown _ 1 1 (E.f y) hx (by rw[E.hf];omega) (fun j u hu=>?_) (E.h1 y) (by simp[maxLen];omega) hb hbase ?_
 ·rw[Addr.add_lit,Bh]
  exact hy j u hu
 ·intro v' w' h1 h2 h3
  refine h v' w' ?_ h2;unfold jm;rw[je,List.flatMap_append];simpa using h1
theorem aa6 (E:F6 P α) {R:Nat->bf->List Value->α->Prop} (hRf:∀w cs x,R 0 w cs x->cs=E.f x) (w:bf) {ops:Array Oper} {rest:List Oper} {o:Oper} {a:Act} {Q:Exit->Act->bf->Prop} (hgd:o.guard=none) (s x:Operand)
  (ho:o.op=.call { callee:=.builtin .append,args:=#[s,x],argTypes:=#[E.ST,E.ST] })
  (base g cap:Nat) (xs:List α) (hs:a.eval s=.slice (some ⟨g,0,none⟩) xs.length cap) (hown:jm E w base (.slice (some ⟨g,0,none⟩) xs.length cap) xs)
  (xv:Value) (hx:a.eval x=xv) (ys:List α) (hsl:iy E.sz E.qy R 0 w xv ys) (hb:(xs.length+ys.length)*E.qy<=140737488355328) (hbase:base<=w.heap.size)
  (h:∀g' cap' w',jm E w' base (.slice (some ⟨g',0,none⟩) (xs.length+ys.length) cap') (xs++ys)->w.grownBy w' (some g)->wpList P ops Q rest (a.put o.dst (.slice (some ⟨g',0,none⟩) (xs.length+ys.length) cap')) w'):wpList P ops Q (o::rest) a w:=by
 obtain⟨i,hi,hz0,hz1,hz2⟩:=info_parts E.hi;obtain⟨ax,cx,rfl,_,hn,hel⟩:=hsl;have hlen:xs.length+ys.length<=140737488355328:=jq (Xe _ E.hby) hb
 have hcap:xs.length<=cap:=by
  rcases hown.shape with ⟨hh,_⟩|⟨g1,cap1,hv,_,_,h2⟩
  ·cases hh
  ·simp only[qw] at hv
   obtain⟨_,_,rfl⟩:=hv;exact h2
 cases ax with
 | none =>
  have hy:ys=[]:=by
   cases ys with
   | nil=>rfl
   | cons y ys =>
    obtain⟨b,o,cs,Fv,_⟩:=hel 0 (by simp)
    cases Fv
  subst hy;refine wpList_plain hgd fun K hK=>?_
  have hrun:=run_append_room_src (P:=P) w E.ST E.ST o.type E.T i E.hT hi g 0 xs.length cap (.slice none 0 cx) 0 [] (Src.ofNil w E.hT cx) (by omega) (fun j hj=>by simp at hj) (fun j hj=>by simp at hj);unfold Oper.wp execOp;simp only[ho,resolve,invoke,builtin,Sem.run_bind,Sem.run_pure,Result.andThen_ok,List.map_toArray,Ap,Gf,hs,hx,hrun,A8];refine hK _ _ ?_;have hsc:w.setCells g (0+xs.length*i.size) []=w:=by simp[World.setCells]
  rw[hsc];have:=h g cap w (by simpa using hown) (World.grownBy.refl w _);simpa using this
 | some ad =>
  have hcellA:∀j u,(ys.flatMap E.f)[j]?=some u->w.cell? (ad.add j)=some u:=fun j u hu=>by
   have hj:j<ys.length*E.sz:=by
    have:=(List.getElem?_eq_some_iff.1 hu).1;rwa[Rx E.f E.sz E.hf] at this
   have hsz:=E.hsz;have hdiv:j / E.sz<ys.length:=Nat.div_lt_of_lt_mul (by rw[Nat.mul_comm];exact hj);have hmod:j % E.sz<E.sz:=Nat.mod_lt _ hsz;have hjj:j / E.sz*E.sz+j % E.sz=j:=by rw[Nat.mul_comm];exact Nat.div_add_mod j E.sz
   obtain⟨b,oo,cs,Fv,_,_,hl,hc,hR⟩:=hel (j / E.sz) hdiv;simp only[uo] at Fv;subst Fv;have ecs:=hRf _ _ _ hR;subst ecs;have hg:=flat_get E.f E.sz E.hf ys (j / E.sz) hdiv (j % E.sz) hmod;rw[hjj,hu] at hg;obtain⟨hjl,hju⟩:=List.getElem?_eq_some_iff.1 hg.symm;have hcc:=hc (j % E.sz) hjl;rw[hju] at hcc;rw[Addr.add_lit,←hcc];congr 2;omega
  refine wpList_append_own w hgd s x E.ST ho base E.T i _ E.sz E.qy E.hT hi hz0 hz1 hz2 E.hz E.hsz _ xs.length (xs.flatMap E.f) hs hown ad ys.length cx (ys.flatMap E.f) hx (Rx E.f E.sz E.hf ys) hcellA (fun u hu=>?_) (by simp[maxLen];omega) hb hbase ?_
  ·obtain⟨y,_,hy⟩:=List.mem_flatMap.1 hu
   exact E.h1 y u hy
  ·intro v' w' h1 h2 h3
   obtain⟨hl,hh⟩:=h1;rcases hh with ⟨rfl,_⟩|⟨g',cap',cur,rfl,hr⟩
   ·have:=h3.1 rfl
    cases this.1
   ·refine h g' cap' w' ⟨?_,Or.inr ⟨g',cap',cur,by rw[je],?_⟩⟩ h2
    ·rw[je,List.flatMap_append]
     exact hl
    ·rw[je,List.flatMap_append]
     exact hr
end
def Gx:F6 Tryz.prog ku where
 T:=83
 ST:=56
 sz:=3
 qy:=32
 f:=fun t=>[.int .i64 t.op,.int .i64 t.val,.string t.name]
 z:=.agg #[.int .i64 0,.int .i64 0,.string ByteArray.empty]
 hT:=Tryz.underlying56
 hi:=by kernel_rfl
 hz:=rfl
 hf:=fun _=>rfl
 h1:=fun c u hu=>by
  simp only[ql,xg,xk] at hu;rcases hu with rfl|rfl|rfl<;>rfl
 hsz:=by decide
 hby:=by decide
def Xy:F6 Tryz.prog Int where
 T:=3
 ST:=47
 sz:=1
 qy:=8
 f:=fun t=>[.int .i64 t]
 z:=.int .i64 0
 hT:=Tryz.underlying47
 hi:=by kernel_rfl
 hz:=rfl
 hf:=fun _=>rfl
 h1:=fun c u hu=>by
  simp only[ql,xg,xk] at hu;rcases hu with rfl;rfl
 hsz:=by decide
 hby:=by decide
def ni:F6 Tryz.prog dh where
 T:=9
 ST:=40
 sz:=1
 qy:=16
 f:=fun t=>[.string t]
 z:=.string ByteArray.empty
 hT:=Tryz.underlying40
 hi:=by kernel_rfl
 hz:=rfl
 hf:=fun _=>rfl
 h1:=fun c u hu=>by
  simp only[ql,xg,xk] at hu;rcases hu with rfl;rfl
 hsz:=by decide
 hby:=by decide
def jc (w:bf) (g:Nat) (e:TypeId) (cs:Array Value):Prop:=w.heap[g]?=some (.cells cs e (0,0))
theorem jc.lt {w:bf} {g:Nat} {e:TypeId} {cs:Array Value} (h:jc w g e cs):g<w.heap.size:=(Jk.1 h).1
theorem jc.cell {w:bf} {g:Nat} {e:TypeId} {cs:Array Value} (h:jc w g e cs) {i:Nat} {v:Value} (hi:cs[i]?=some v):w.cell? ⟨g,i,none⟩=some v:=by
 unfold jc at h;simp[World.cell?,h,hi]
theorem jc.free {w:bf} {g:Nat} {e:TypeId} {cs:Array Value} (h:jc w g e cs) (i:Nat):w.frozen? ⟨g,i,none⟩=false:=by
 unfold jc at h;simp[World.frozen?,h]
theorem jc.below {w w':bf} {g B:Nat} {e:TypeId} {cs:Array Value} (h:jc w g e cs) (hb:Below B w w') (hg:g<B):jc w' g e cs:=(hb.block g hg).trans h
theorem jc.set {w:bf} {g:Nat} {e:TypeId} {cs:Array Value} (h:jc w g e cs) (i:Nat) (v:Value):jc (w.setCell ⟨g,i,none⟩ v) g e (cs.setIfInBounds i v):=by
 unfold jc at *;simp only[World.setCell,Array.getElem?_modify,if_true,h,Option.map_some];simp
theorem og (w:bf) (cs:Array Value) (e:TypeId):jc (w.alloc (.cells cs e)) w.heap.size e cs:=by
 show (w.heap.push _)[w.heap.size]?=_;rw[Array.getElem?_push_size]
theorem ext_eq (s:dh) (f i:Nat) (hf:f<=i) (hi:i<=s.size):s.extract f i=Qv (((bL s).drop f).take (i-f)):=by
 apply ByteArray.ext;apply Array.ext';simp[Qv,bL,ByteArray.data_extract,Array.toList_extract,List.extract]
theorem aj2 (s:dh) (i:Nat) (hi:i<s.size):(bL s)[i]'(by rw[Ez];exact hi)=s[i]:=by
 simp only[bL,Array.getElem_toList];rfl
def Ve (c:UInt8) (s:dh) (P:List dh) (f i:Nat):Prop:=f<=i∧P++(cutAt c ((bL s).drop f)).map Qv=wordsOf c s∧c∉((bL s).drop f).take (i-f)
theorem Ve.start (c:UInt8) (s:dh):Ve c s [] 0 0:=⟨gq _,rfl,by simp⟩
theorem Ve.next {c:UInt8} {s:dh} {P:List dh} {f i:Nat} (h:Ve c s P f i) (hi:i<s.size) (hb:s[i]≠c):Ve c s P f (i+1):=by
 obtain⟨h1,h2,h3⟩:=h;refine⟨by omega,h2,?_⟩;have hl:i-f<((bL s).drop f).length:=by rw[Dh,Ez];omega
 rw[show i+1-f=(i-f)+1 from by omega,Fb hl];intro h9;rcases Ec.1 h9 with h8|h8
 ·exact h3 h8
 ·rw[yj,List.getElem_drop] at h8
  have e:(bL s)[f+(i-f)]'(by rw[Ez];omega)=s[i]:=by
   have:f+(i-f)=i:=by omega
   simp only[this];exact aj2 s i hi
  rw[e] at h8;exact hb h8.symm
theorem Ve.cut {c:UInt8} {s:dh} {P:List dh} {f i:Nat} (h:Ve c s P f i) (hi:i<s.size) (hb:s[i]=c):Ve c s (P++[s.extract f i]) (i+1) (i+1):=by
 obtain⟨h1,h2,h3⟩:=h;refine⟨gq _,?_,by simp⟩;rw[←h2,ext_eq s f i h1 (by omega)]
 have hd:(bL s).drop f=((bL s).drop f).take (i-f)++c::(bL s).drop (i+1):=by
  have h4:=(Pj (i-f) ((bL s).drop f)).symm;have h5:=List.drop_eq_getElem_cons (l:=bL s) (i:=i) (by rw[Ez];exact hi);rw[List.drop_drop,show f+(i-f)=i from by omega,h5,aj2 s i hi,hb] at h4;exact h4
 conv=>rhs;rw[hd,Yr _ _ _ h3]
 simp
theorem Ve.done {c:UInt8} {s:dh} {P:List dh} {f:Nat} (h:Ve c s P f s.size):P++[s.extract f s.size]=wordsOf c s:=by
 obtain⟨h1,h2,h3⟩:=h
 have e:((bL s).drop f).take (s.size-f)=(bL s).drop f:=by
  rw[Qg (by rw[Dh,Ez];omega)]
 rw[e] at h3;rw[←h2,ext_eq s f s.size h1 (gq _),e,Ur _ _ h3];simp
theorem Ve.few {c:UInt8} {s:dh} {P:List dh} {f i:Nat} (h:Ve c s P f i):P.length<=s.size:=by
 have h1:=(yg c s).1;have h2:=mg List.length h.2.1;have h3:=Bg.2 (abw c ((bL s).drop f));rw[je,Ad] at h2;omega
theorem aj6 (s:dh) (c:UInt8) (w:bf) (hs:s.size<=1048576):Calls Tryz.prog 19 #[.string s,.int .u8 ((c.toNat:Nat):Int)] w (fun e w'=>∃v,e=.returned v∧jm ni w' w.heap.size v (wordsOf c s)∧Below w.heap.size w w'):=by
 obtain⟨PO,Gv⟩:∃PO:Ending->bf->Prop,PO=(fun e w'=>∃v,e=.returned v∧jm ni w' w.heap.size v (wordsOf c s)∧Below w.heap.size w w'):=⟨_,rfl⟩;rw[←Gv];have Dn:=hide Gv;clear Gv;have HST:Hid (jm ni (w.alloc (.cells #[] 9)) w.heap.size (.slice (some ⟨w.heap.size,0,none⟩) 0 0) []∧Below w.heap.size w (w.alloc (.cells #[] 9))):=hide ⟨jm.start _ _ (gq _),(gy _ _).alloc (gq _) _⟩;go_enter Tryz.func19,Tryz.ntmps19;go_wp2
 go_loopg [5,6,7] s.size (fun gh pv fv ix wr=>∃(P:List dh) (f i:Nat),i<=s.size∧gh=s.size-i∧fv=.int .i64 f∧ix=.int .i64 i∧Hid (Ve c s P f i)∧Hid (jm ni wr w.heap.size pv P)∧Hid (Below w.heap.size w wr))
 case atStart=>exact⟨[],0,0,jg _,by omega,rfl,rfl,hide (Ve.start c s),hide (uh HST).1,hide (uh HST).2⟩
 case round =>
  obtain⟨P,f,i,hi,hg,rfl,rfl,HC,HO,HB⟩:=hrel;have HG:=hide hg;clear hg HST;have hfi:f<=i:=(uh HC).1;have hfw:=(uh HC).few;obtain⟨pa,pc,hpv⟩:=(uh HO).slice
  by_cases hlt:i<s.size
  ·have hbd:=aap s[i]
   have Ku:(i:Int)<(s.size:Int):=by omega
   by_cases hc:s[i]=c
   ·have HN:=hide ((uh HC).cut hlt hc)
    have q1:(((s[i].toNat:Nat):Int) == ((c.toNat:Nat):Int))=true:=by rw[hc];simp
    have hA:Below wr.heap.size wr (wr.alloc (.cells #[.string (s.extract f i)] 9)):=(gy _ _).alloc (gq _) _;have Oj:=hide ((uh HO).below hA);have H4:=hide ((uh HB).trans (hA.mono (uh HB).size));have Rl:=hide ((uh HB).trans (hA.mono (uh HB).size)).size;have Rk:Hid ((P.length+1)*16<=140737488355328):=hide (by omega);clear hA hc hpv;go_wp2_with (at_builtin;go_must (refine Au ni _ rfl _ _ rfl w.heap.size _ P rfl (uh Oj) wr.heap.size (s.extract f i) rfl (fun j u hu=>by rw[zy _ _ _ _ rfl];simpa[ni] using hu) (uh Rk) (uh Rl) ?_));intro v' w5 yc hg5;have HO5:=hide yc;have Hf:=hide ((uh Oj).grown (uh H4) hg5 (uh Rl) (gq _));clear yc hg5;go_wp2
    go_roundg (s.size-(i+1))
    case measure=>have:=uh HG;omega
    case rel=>exact⟨P++[s.extract f i],i+1,i+1,by omega,rfl,by go_num,by go_num,HN,HO5,Hf⟩
   ·have HN:=hide ((uh HC).next hlt hc)
    have q1:(((s[i].toNat:Nat):Int) == ((c.toNat:Nat):Int))=false:=by
     rw[su];intro h9;exact hc (UInt8.toNat_inj.1 (by omega))
    clear hc hpv;go_wp2
    go_roundg (s.size-(i+1))
    case measure=>have:=uh HG;omega
    case rel=>exact⟨P,f,i+1,by omega,rfl,rfl,by go_num,HN,HO,HB⟩
  ·have e:i=s.size:=by omega
   have HD:Hid (P++[s.extract f s.size]=wordsOf c s):=hide (by have h9:=uh HC;rw[e] at h9;exact h9.done);have Ku:¬(i:Int)<(s.size:Int):=by omega
   have hfs:f<=s.size:=by omega
   have hA:Below wr.heap.size wr (wr.alloc (.cells #[.string (s.extract f s.size)] 9)):=(gy _ _).alloc (gq _) _;have Oj:=hide ((uh HO).below hA);have H4:=hide ((uh HB).trans (hA.mono (uh HB).size));have Rl:=hide ((uh HB).trans (hA.mono (uh HB).size)).size;have Rk:Hid ((P.length+1)*16<=140737488355328):=hide (by omega);clear hA hpv e;go_wp2_with (at_builtin;go_must (refine Au ni _ rfl _ _ rfl w.heap.size _ P rfl (uh Oj) wr.heap.size (s.extract f s.size) rfl (fun j u hu=>by rw[zy _ _ _ _ rfl];simpa[ni] using hu) (uh Rk) (uh Rl) ?_));intro v' w5 yc hg5
   have qc:Hid (PO (.returned v') w5):=hide (by
    rw[uh Dn];exact⟨v',rfl,by rw[←uh HD];exact yc,(uh Oj).grown (uh H4) hg5 (uh Rl) (gq _)⟩)
   obtain⟨va,vc,hv'⟩:=yc.slice;clear yc hg5;go_wp2
   first|exact uh qc|(rw[←hv'];exact uh qc)|(go_ret;exact uh qc)
end Go.Proofs.YtfeejeflmcapoaaGreatDoor
