import Derived.Test.YtfeejeflmcapoaaGreatDoorPM0
set_option linter.unusedSimpArgs false
set_option linter.unusedVariables false
set_option maxHeartbeats 2000000
namespace Go.Proofs.YtfeejeflmcapoaaGreatDoor
open Go.RowKit
def cutAt {α:Type} [DecidableEq α] (c:α):List α->List (List α)
 | []=>[[]]
 | x::l=>if x=c then []::cutAt c l else (x::(cutAt c l).headD [])::(cutAt c l).tail
section
variable {α:Type} [DecidableEq α]
theorem abt (c:α) (l:List α):cutAt c l≠[]:=by
 cases l with
 | nil=>simp[cutAt]
 | cons x l=>unfold cutAt;split<;>simp
theorem Uc (c:α) (l:List α):cutAt c l=(cutAt c l).headD []::(cutAt c l).tail:=by
 cases h:cutAt c l with
 | nil=>exact absurd h (abt c l)
 | cons a b=>rfl
theorem amg (c:α) (a l:List α) (h:c∉a):cutAt c (a++l)=(a++(cutAt c l).headD [])::(cutAt c l).tail:=by
 induction a with
 | nil=>exact Uc c l
 | cons x a ih =>
  have hx:x≠c:=fun e=>h (by simp[e])
  rw[Ew,cutAt,bf hx,ih (fun h9=>h (Gu _ h9))];rfl
theorem Ul (c:α) (a:List α) (h:c∉a):cutAt c a=[a]:=by
 have h9:=amg c a [] h;simpa[cutAt] using h9
theorem Yo (c:α) (a l:List α) (h:c∉a):cutAt c (a++c::l)=a::cutAt c l:=by
 rw[amg c a _ h,cutAt,gy rfl];simp
theorem afz (c:α) (l:List α):(cutAt c l).length<=l.length+1/\((cutAt c l).map (fun p=>p.length+1)).sum=l.length+1:=by
 induction l with
 | nil=>exact⟨gu _,rfl⟩
 | cons x l ih =>
  unfold cutAt;have e:=Uc c l;rw[e] at ih
  split
  ·simp only[ug,Ai,List.sum_cons,Ar] at ih ⊢
   rw[e];simp only[ug,Ai,List.sum_cons] at ih ⊢;omega
  ·simp only[ug,Ai,List.sum_cons] at ih ⊢
   omega
end
def bL (s:dh):List UInt8:=s.data.toList
def Qo (l:List UInt8):dh:=⟨l.toArray⟩
theorem Uy (s:dh):Qo (bL s)=s:=by cases s;simp[Qo,bL]
theorem Zg (l:List UInt8):bL (Qo l)=l:=by simp[Qo,bL]
theorem Q9 (a b:dh):bL (a++b)=bL a++bL b:=by simp[bL,ByteArray.data_append]
theorem Ep (s:dh):(bL s).length=s.size:=by
 unfold bL;rw[Array.length_toList];rfl
def wordsOf (c:UInt8) (s:dh):List dh:=(cutAt c (bL s)).map Qo
theorem Ei (c:UInt8) (s:dh):wordsOf c s≠[]:=by
 unfold wordsOf;simpa using abt c (bL s)
theorem Au (c:UInt8) (s:dh):(wordsOf c s).length<=s.size+1/\((wordsOf c s).map (fun p=>p.size+1)).sum=s.size+1:=by
 have h:=afz c (bL s);rw[Ep] at h;unfold wordsOf;refine⟨by simpa using h.1,?_⟩;rw[List.map_map]
 have e:((fun p:dh=>p.size+1) ∘ Qo)=fun p:List UInt8=>p.length+1:=by
  funext p;show (Qo p).size+1=_;rw[←Ep,Zg]
 rw[e];exact h.2
theorem arj (ps:List dh):(ps.map bL).map Qo=ps:=by
 rw[List.map_map];have e:Qo ∘ bL=id:=by funext s;exact Uy s
 rw[e,List.map_id]
theorem a0a (ls:List dh) (h:∀l,l∈ls->10∉bL l):wordsOf 10 (F6 ls)=ls++[⟨#[]⟩]:=by
 have key:cutAt 10 (bL (F6 ls))=ls.map bL++[[]]:=by
  induction ls with
  | nil=>rfl
  | cons l ls ih =>
   have e:bL (F6 (l::ls))=bL l++10::bL (F6 ls):=by
    rw[F6,Q9,Q9];rfl
   rw[e,Yo _ _ _ (h l (Hr ..)),ih (fun x hx=>h x (Gu _ hx))];rfl
 unfold wordsOf;rw[key,Ig,arj];rfl
theorem abv (ps:List dh) (hne:ps≠[]) (h:∀p,p∈ps->32∉bL p):wordsOf 32 (oq ps)=ps:=by
 have key:cutAt 32 (bL (Fb Lsp ps))=ps.map bL:=by
  induction ps with
  | nil=>exact absurd rfl hne
  | cons p ps ih =>
   by_cases e:ps=[]
   ·subst e
    rw[Ou,Ul _ _ (h p (Hr ..))];rfl
   ·rw[Jl _ _ _ e,Q9,Q9,show bL Lsp++bL (Fb Lsp ps)=32::bL (Fb Lsp ps) from rfl,Yo _ _ _ (h p (Hr ..)),ih e (fun x hx=>h x (Gu _ hx))]
    rfl
 unfold wordsOf oq;rw[key,arj]
def Vx (b:UInt8):Bool:=decide (48<=b.toNat/\b.toNat<=57)
def Ro (l:List UInt8):Nat:=l.foldl (fun n b=>if Vx b=true/\n<=2147483647 then n*10+(b.toNat-48) else n) 0
def Bd (s:dh):Int:=if (bL s).head?=some 45 then -(Ro (bL s):Int) else (Ro (bL s):Int)
theorem agi (l:List UInt8) (b:UInt8):Ro (l++[b])=if Vx b=true/\Ro l<=2147483647 then Ro l*10+(b.toNat-48) else Ro l:=by
 unfold Ro;rw[Ju];rfl
theorem Yp (d:Nat) (h:d<10):(UInt8.ofNat (48+d)).toNat=48+d:=by
 rw[UInt8.toNat_ofNat'];omega
theorem ao8:∀(u:Nat),u<=4294967296->Ro (Lib.decDigits u)=u:=by
 intro u
 induction u using Nat.strongRecOn with
 | ind u ih =>
  intro h;rw[Lib.decDigits]
  by_cases c:u<10
  ·rw[dif_pos c]
   have h9:=agi [] (UInt8.ofNat (48+u));rw[Gm] at h9;rw[h9];unfold Vx;rw[Yp u c,gy ⟨jf ⟨by omega,by omega⟩,by simp[Ro]⟩];simp[Ro]
  ·rw[dif_neg c,agi,ih (u / 10) (by omega) (by omega)]
   unfold Vx;rw[Yp (u % 10) (by omega),gy ⟨jf ⟨by omega,by omega⟩,by omega⟩];omega
theorem Vy (u:Nat):∃b l,Lib.decDigits u=b::l/\Vx b=true/\∀x,x∈Lib.decDigits u->Vx x=true:=by
 induction u using Nat.strongRecOn with
 | ind u ih =>
  rw[Lib.decDigits]
  by_cases c:u<10
  ·rw[dif_pos c]
   have hd:Vx (UInt8.ofNat (48+u))=true:=by
    unfold Vx;rw[Yp u c];exact jf ⟨by omega,by omega⟩
   exact⟨_,_,rfl,hd,fun x hx=>by rw[yt] at hx;rw[hx];exact hd⟩
  ·rw[dif_neg c]
   obtain⟨b,l,h1,h2,h3⟩:=ih (u / 10) (by omega)
   have hd:Vx (UInt8.ofNat (48+u % 10))=true:=by
    unfold Vx;rw[Yp _ (by omega)];exact jf ⟨by omega,by omega⟩
   refine⟨b,l++[UInt8.ofNat (48+u % 10)],by rw[h1];rfl,h2,fun x hx=>?_⟩;rcases Dx.1 hx with h4|h4
   ·exact h3 x h4
   ·rw[yt] at h4;rw[h4];exact hd
theorem ad5 (v:Int):bL (qo v)=Lib.itoa v:=by simp[bL,qo]
theorem abw (v:Int) (h:Oe v):Bd (qo v)=v:=by
 unfold Oe at h;unfold Bd;rw[ad5];unfold Lib.itoa
 by_cases c:v<0
 ·rw[gy c]
  have e:Ro (45::Lib.decDigits v.natAbs)=Ro (Lib.decDigits v.natAbs):=rfl;rw[gy (show (45::Lib.decDigits v.natAbs).head?=some 45 from rfl),e,ao8 _ (by omega)];omega
 ·rw[bf c]
  obtain⟨b,l,h1,h2,_⟩:=Vy v.toNat
  have hb:¬(Lib.decDigits v.toNat).head?=some 45:=by
   rw[h1];intro h9;have h8:b=45:=by simpa using h9
   rw[h8] at h2;exact absurd h2 (by decide)
  rw[bf hb,ao8 _ (by omega)];omega
theorem ad6 (v:Int) (c:UInt8) (h:Vx c=false) (h45:c≠45):c∉bL (qo v):=by
 rw[ad5];unfold Lib.itoa;intro hm
 split at hm
 ·obtain⟨b,l,_,_,h3⟩:=Vy v.natAbs
  rcases qj.1 hm with e|e
  ·exact h45 e
  ·rw[h3 c e] at h;cases h
 ·obtain⟨b,l,_,_,h3⟩:=Vy v.toNat
  rw[h3 c hm] at h;cases h
def E0:dh:=⟨#[]⟩
def Dh (i:Nat):dh:=partT ⟨(i:Int)+4,0,E0⟩
def J7 (s:dh):dh:=Qo ((bL s).drop 1)
def Jf (p:dh):l9 :=
 match (List.range 17).find? (fun i=>decide (Dh i=p)) with
 | some i=>⟨(i:Int)+4,0,E0⟩
 | none=>if p=N7 then ⟨2,1,E0⟩ else if p=Jw then ⟨2,0,E0⟩ else if (bL p).head?=some 46 then ⟨3,0,J7 p⟩ else if (bL p).head?=some 64 then ⟨25,Bd (J7 p),E0⟩ else ⟨1,Bd p,E0⟩
structure Si (t:l9):Prop where
 op:(1<=t.op/\t.op<=20)\/t.op=25
 num:t.op=1->0<=t.val/\t.val<=2147483647
 tru:t.op=2->t.val=0\/t.val=1
 cell:t.op=25->0<=t.val/\t.val<=1000
 am6:t.op=3\/(4<=t.op/\t.op<=20)->t.val=0
 X5:t.op≠3->t.name=E0
 name:t.op=3->∀b,b∈bL t.name->b≠32/\b≠10/\b≠44
def a1b:List UInt8->Bool
 | []=>false
 | b::_=>!Vx b&&(decide (b≠46)&&decide (b≠64))
theorem ao9:∀i:Fin 17,a1b (bL (Dh i.val))=true:=by decide +kernel
theorem ait (p:dh) (b:UInt8) (l:List UInt8) (hp:bL p=b::l) (h:Vx b=true\/b=46\/b=64):∀i,i<17->Dh i≠p:=fun i hi e=>by
 have h9:=ao9 ⟨i,hi⟩;simp only at h9;rw[e,hp] at h9;simp only[a1b,uy,Bool.not_eq_true',decide_eq_true_eq] at h9;rcases h with h|h|h
 ·rw[h9.1] at h;cases h
 ·exact h9.2.1 h
 ·exact h9.2.2 h
theorem ab4:∀i:Fin 17,(32∉bL (Dh i.val)/\10∉bL (Dh i.val))/\Dh i.val≠Bl/\Dh i.val≠N7/\Dh i.val≠Jw:=by decide +kernel
theorem axc:∀i:Fin 17,Dh i.val≠ql:=by decide +kernel
theorem aj0:∀i:Fin 17,(List.range 17).find? (fun j=>decide (Dh j=Dh i.val))=some i.val:=by decide +kernel
theorem Um (p:dh) (h:∀i,i<17->Dh i≠p):(List.range 17).find? (fun i=>decide (Dh i=p))=none:=by
 rw[List.find?_eq_none];intro i hi;simpa using h i (uz.1 hi)
theorem ak1 (t:l9) (h:4<=t.op/\t.op<=20):∃i:Nat,i<17/\t.op=(i:Int)+4/\partT t=Dh i:=by
 refine⟨(t.op-4).toNat,by omega,by omega,?_⟩;have e:(((t.op-4).toNat:Int)+4)=t.op:=by omega
 unfold Dh partT;rw[e];simp only;rw[bf (show ¬t.op=1 by omega),bf (show ¬t.op=2 by omega),bf (show ¬t.op=3 by omega),bf (show ¬t.op=25 by omega),bf (show ¬t.op=1 by omega),bf (show ¬t.op=2 by omega),bf (show ¬t.op=3 by omega),bf (show ¬t.op=25 by omega)]
theorem aua (t:l9) (h:Si t):Jf (partT t)=t:=by
 obtain⟨op,val,name⟩:=t;unfold Jf;rcases h.op with h1|h1
 case inr =>
  simp only at h1;subst h1;have hn:=h.X5 (show ¬(25:Int)=3 by decide);have hc:=h.cell rfl;simp only at hn hc;have e:partT ⟨25,val,name⟩=Wat++qo val:=rfl;have eb:bL (Wat++qo val)=64::bL (qo val):=by rw[Q9];rfl
  rw[e,Um _ (ait _ _ _ eb (Or.inr (Or.inr rfl)))];have n1:¬Wat++qo val=N7:=fun h9=>by have h8:=ni bL h9;rw[eb] at h8;exact absurd (List.cons.inj h8).1 (by decide)
  have n2:¬Wat++qo val=Jw:=fun h9=>by have h8:=ni bL h9;rw[eb] at h8;exact absurd (List.cons.inj h8).1 (by decide)
  simp only;rw[bf n1,bf n2,eb,bf (show ¬(64::bL (qo val)).head?=some 46 from fun h9=>absurd (Gv h9) (by decide)),gy (show (64::bL (qo val)).head?=some 64 from rfl),show J7 (Wat++qo val)=qo val from by unfold J7;rw[eb];exact Uy _,abw _ (by unfold Oe;omega),hn]
 by_cases c1:op=1
 ·subst c1
  have hn:=h.X5 (show ¬(1:Int)=3 by decide);have hc:=h.num rfl;simp only at hn hc;have e:partT ⟨1,val,name⟩=qo val:=rfl;obtain⟨b,l,g1,g2,_⟩:=Vy val.toNat;have eb:bL (qo val)=b::l:=by rw[ad5];unfold Lib.itoa;rw[bf (by omega),g1]
  rw[e,Um _ (ait _ _ _ eb (Or.inl g2))]
  have n1:¬qo val=N7:=fun h9=>by
   have h8:=ni bL h9;rw[eb] at h8;rw[(List.cons.inj h8).1] at g2;exact absurd g2 (by decide)
  have n2:¬qo val=Jw:=fun h9=>by
   have h8:=ni bL h9;rw[eb] at h8;rw[(List.cons.inj h8).1] at g2;exact absurd g2 (by decide)
  have n3:¬(bL (qo val)).head?=some 46:=by
   rw[eb];intro h9;have h8:b=46:=by simpa using h9
   rw[h8] at g2;exact absurd g2 (by decide)
  have n4:¬(bL (qo val)).head?=some 64:=by
   rw[eb];intro h9;have h8:b=64:=by simpa using h9
   rw[h8] at g2;exact absurd g2 (by decide)
  simp only;rw[bf n1,bf n2,bf n3,bf n4,abw _ (by unfold Oe;omega),hn]
 by_cases c2:op=2
 ·subst c2
  have hn:=h.X5 (show ¬(2:Int)=3 by decide);simp only at hn;rcases h.tru rfl with hv|hv
  ·simp only at hv
   subst hv hn;have e:partT ⟨2,0,E0⟩=Jw:=rfl;rw[e,Um _ (fun i hi=>(ab4 ⟨i,hi⟩).2.2.2)];show (if Jw=N7 then _ else if Jw=Jw then _ else _)=_;rw[bf (by decide),gy rfl]
  ·simp only at hv
   subst hv hn;have e:partT ⟨2,1,E0⟩=N7:=rfl;rw[e,Um _ (fun i hi=>(ab4 ⟨i,hi⟩).2.2.1)];show (if N7=N7 then _ else _)=_;rw[gy rfl]
 by_cases c3:op=3
 ·subst c3
  have hv:=h.am6 (Or.inl rfl);simp only at hv;subst hv;have e:partT ⟨3,0,name⟩=Zf++name:=rfl;have eb:bL (Zf++name)=46::bL name:=by rw[Q9];rfl
  rw[e,Um _ (ait _ _ _ eb (Or.inr (Or.inl rfl)))];have n1:¬Zf++name=N7:=fun h9=>by have h8:=ni bL h9;rw[eb] at h8;exact absurd (List.cons.inj h8).1 (by decide)
  have n2:¬Zf++name=Jw:=fun h9=>by have h8:=ni bL h9;rw[eb] at h8;exact absurd (List.cons.inj h8).1 (by decide)
  simp only;rw[bf n1,bf n2,eb,gy (show (46::bL name).head?=some 46 from rfl),show J7 (Zf++name)=name from by unfold J7;rw[eb];exact Uy _]
 ·have hr:4<=op/\op<=20:=by simp only at h1;omega
  obtain⟨i,hi,ho,hp⟩:=ak1 ⟨op,val,name⟩ hr;have hv:=h.am6 (Or.inr hr);have hn:=h.X5 c3;simp only at ho hv hn;rw[hp,aj0 ⟨i,hi⟩];simp only;rw[←ho,hv,hn]
theorem a5l (t:l9) (h:Si t):(32∉bL (partT t)/\10∉bL (partT t))/\partT t≠Bl/\partT t≠ql:=by
 obtain⟨op,val,name⟩:=t;have dno:∀v:Int,32∉bL (qo v)/\10∉bL (qo v):=fun v=>⟨ad6 v 32 (by decide) (by decide),ad6 v 10 (by decide) (by decide)⟩
 rcases h.op with h1|h1
 case inr =>
  simp only at h1;subst h1;have e:partT ⟨25,val,name⟩=Wat++qo val:=rfl;have eb:bL (Wat++qo val)=64::bL (qo val):=by rw[Q9];rfl
  rw[e];refine⟨by rw[eb];simp[dno val],fun h9=>?_,fun h9=>?_⟩
  ·have h8:=ni bL h9;rw[eb] at h8;exact absurd (List.cons.inj h8).1 (by decide)
  ·have h8:=ni bL h9;rw[eb] at h8;exact absurd (List.cons.inj h8).1 (by decide)
 by_cases c1:op=1
 ·subst c1
  have hc:=h.num rfl;simp only at hc;have e:partT ⟨1,val,name⟩=qo val:=rfl;obtain⟨b,l,g1,g2,_⟩:=Vy val.toNat;have eb:bL (qo val)=b::l:=by rw[ad5];unfold Lib.itoa;rw[bf (by omega),g1]
  rw[e];refine⟨dno val,fun h9=>?_,fun h9=>?_⟩
  ·have h8:=ni bL h9;rw[eb] at h8;rw[(List.cons.inj h8).1] at g2;exact absurd g2 (by decide)
  ·have h8:=ni bL h9;rw[eb] at h8;rw[(List.cons.inj h8).1] at g2;exact absurd g2 (by decide)
 by_cases c2:op=2
 ·subst c2
  have e:partT ⟨2,val,name⟩=flT val:=rfl;rw[e];unfold flT
  split<;>decide
 by_cases c3:op=3
 ·subst c3
  have hb:=h.name rfl;simp only at hb;have e:partT ⟨3,val,name⟩=Zf++name:=rfl;have eb:bL (Zf++name)=46::bL name:=by rw[Q9];rfl
  rw[e];refine⟨by rw[eb];exact⟨fun h9=>by rcases qj.1 h9 with h8|h8;exact absurd h8 (by decide);exact(hb _ h8).1 rfl,fun h9=>by rcases qj.1 h9 with h8|h8;exact absurd h8 (by decide);exact(hb _ h8).2.1 rfl⟩,fun h9=>?_,fun h9=>?_⟩
  ·have h8:=ni bL h9;rw[eb] at h8;exact absurd (List.cons.inj h8).1 (by decide)
  ·have h8:=ni bL h9;rw[eb] at h8;exact absurd (List.cons.inj h8).1 (by decide)
 ·have hr:4<=op/\op<=20:=by simp only at h1;omega
  obtain⟨i,hi,ho,hp⟩:=ak1 ⟨op,val,name⟩ hr;rw[hp];exact⟨(ab4 ⟨i,hi⟩).1,(ab4 ⟨i,hi⟩).2.1,axc ⟨i,hi⟩⟩
structure Fj (P:Program) (α:Type) where
 T:TypeId
 ST:TypeId
 sz:Nat
 uf:Nat
 f:α->List Value
 z:Value
 hT:P.underlying ST=some (.slice T)
 hi:(P.info? T).map (fun i=>(i.zero,i.size,i.bytes))=some (some z,sz,uf)
 hz:z.cells.size=sz
 hf:∀x,(f x).length=sz
 h1:∀x u,u∈f x->u.oneCell'=true
 hsz:0<sz
 hby:0<uf
theorem flat_get {α β:Type} (f:α->List β) (sz:Nat) (hf:∀x,(f x).length=sz):∀(xs:List α) (i:Nat) (hi:i<xs.length) (j:Nat),j<sz->(xs.flatMap f)[i*sz+j]?=(f xs[i])[j]?
 | x::xs,0,_,j,hj=>by
  rw[List.flatMap_cons,Nat.zero_mul,Ba,List.getElem?_append_left (by rw[hf];exact hj)];rfl
 | x::xs,i+1,hi,j,hj=>by
  rw[List.flatMap_cons,Us (by rw[hf,Nat.add_mul];omega),hf];have e:(i+1)*sz+j-sz=i*sz+j:=by rw[Nat.add_mul];omega
  rw[e,flat_get f sz hf xs i (by simpa using hi) j hj];rfl
theorem Rl {α β:Type} (f:α->List β) (sz:Nat) (hf:∀x,(f x).length=sz):∀(xs:List α),(xs.flatMap f).length=xs.length*sz
 | []=>by simp
 | x::xs=>by
  rw[List.flatMap_cons,jh,hf,Rl f sz hf xs,ug,Nat.add_mul];omega
section
variable {P:Program} {α:Type} (E:Fj P α)
def jq (w:cu) (base:Nat) (v:Value) (xs:List α):Prop:=w.ownsRow base E.T E.sz v xs.length (xs.flatMap E.f)
variable {E}
theorem jq.nil (w:cu) (base:Nat):jq E w base (.slice none 0 0) []:=⟨by simp,Or.inl ⟨rfl,rfl⟩⟩
theorem jq.start (w:cu) (base:Nat) (hb:base<=w.heap.size):jq E (w.alloc (.cells #[] E.T)) base (.slice (some ⟨w.heap.size,0,none⟩) 0 0) [] :=
 ⟨by simp,Or.inr ⟨_,_,#[],rfl,hb,Deep.blk_alloc_new _ _,gu _,jg _,by simp,by simp⟩⟩
theorem jq.below {w w':cu} {base:Nat} {v:Value} {xs:List α} (h:jq E w base v xs) (hb:Below w.heap.size w w'):jq E w' base v xs:=by
 obtain⟨h1,h2⟩:=h;refine⟨h1,?_⟩;rcases h2 with h2|⟨g,cap,cur,hv,hg,hh,r⟩
 ·exact Or.inl h2
 ·exact Or.inr ⟨g,cap,cur,hv,hg,(hb.block g (Kv.1 hh).1).trans hh,r⟩
theorem jq.shape {w:cu} {base:Nat} {v:Value} {xs:List α} (h:jq E w base v xs):(v=.slice none 0 0/\xs=[])\/∃g cap,v=.slice (some ⟨g,0,none⟩) xs.length cap/\base<=g/\g<w.heap.size/\xs.length<=cap:=by
 obtain⟨_,h2⟩:=h;rcases h2 with ⟨rfl,h2⟩|⟨g,cap,cur,hv,hg,hh,hc,_⟩
 ·exact Or.inl ⟨rfl,Sj h2⟩
 ·exact Or.inr ⟨g,cap,hv,hg,(Kv.1 hh).1,hc⟩
theorem jq.slice {w:cu} {base:Nat} {v:Value} {xs:List α} (h:jq E w base v xs):∃a cap,v=.slice a xs.length cap:=by
 rcases h.shape with ⟨rfl,rfl⟩|⟨g,cap,rfl,_⟩
 ·exact⟨_,_,rfl⟩
 ·exact⟨_,_,rfl⟩
theorem jq.block {w:cu} {base:Nat} {v:Value} {xs:List α} (h:jq E w base v xs):∀g,v.ownBlock=some g->base<=g:=by
 rcases h.shape with ⟨rfl,rfl⟩|⟨g,cap,rfl,hb,_⟩
 ·intro g hg;cases hg
 ·intro g' hg;cases hg;exact hb
theorem jq.grown {w0 w w':cu} {B base:Nat} {v:Value} {xs:List α} (h:jq E w base v xs) (hb:Below B w0 w) (hg:w.grownBy w' v.ownBlock) (hB:B<=w.heap.size) (hr:B<=base):Below B w0 w' :=
 hb.grown hg hB (fun k e=>ku hr (h.block k e))
theorem jq.at {R:Nat->cu->List Value->α->Prop} {w:cu} {base:Nat} {v:Value} {xs:List α} (h:jq E w base v xs) (hR:∀x,x∈xs->R 0 w (E.f x) x) (hn:xs.length*E.uf<=140737488355328):jc E.sz E.uf R 0 w v xs:=by
 have hlen:xs.length<=140737488355328:=ku (Xa _ E.hby) hn;have h':=h;rcases h.shape with ⟨rfl,rfl⟩|⟨g,cap,rfl,hb,hlt,hcap⟩
 ·exact⟨none,0,rfl,⟨by simp[Len],gu _⟩,by simp[Len],fun i hi=>absurd hi (yu _)⟩
 ·refine⟨_,cap,rfl,⟨hn,hcap⟩,hlen,fun i hi=>⟨g,0,E.f xs[i],rfl,jg _,hlt,E.hf _,fun j hj=>?_,hR _ (o7 hi)⟩⟩
  have hjs:j<E.sz:=by rw[←E.hf xs[i]];exact hj
  have:=World.ownsRow.cells h' (g:=g) rfl (i*E.sz+j) (E.f xs[i])[j] (by rw[flat_get E.f E.sz E.hf xs i hi j hjs];simp[hj]);rw[Addr.add_lit] at this;rw[←this];congr 2;omega
theorem Am (E:Fj P α) (w:cu) {ops:Array Oper} {rest:List Oper} {o:Oper} {a:Act} {Q:Exit->Act->cu->Prop} (hgd:o.guard=none) (s x:Operand)
  (ho:o.op=.call { callee:=.builtin .append,args:=#[s,x],argTypes:=#[E.ST,E.ST] })
  (base:Nat) (v:Value) (xs:List α) (hs:a.eval s=v) (hown:jq E w base v xs)
  (eb:Nat) (y:α) (hx:a.eval x=.slice (some ⟨eb,0,none⟩) 1 1) (hy:∀j u,(E.f y)[j]?=some u->w.cell? ⟨eb,j,none⟩=some u) (hb:(xs.length+1)*E.uf<=140737488355328) (hbase:base<=w.heap.size)
  (h:∀v' w',jq E w' base v' (xs++[y])->w.grownBy w' v.ownBlock->wpList P ops Q rest (a.put o.dst v') w'):wpList P ops Q (o::rest) a w:=by
 obtain⟨i,hi,hz0,hz1,hz2⟩:=info_parts E.hi;have hlen:xs.length+1<=140737488355328:=ku (Xa _ E.hby) hb;refine wpList_append_own w hgd s x E.ST ho base E.T i _ E.sz E.uf E.hT hi hz0 hz1 hz2 E.hz E.hsz v xs.length (xs.flatMap E.f) hs hown _ 1 1 (E.f y) hx (by rw[E.hf];omega) (fun j u hu=>?_) (E.h1 y) (by simp[maxLen];omega) hb hbase ?_
 ·rw[Addr.add_lit,Ba]
  exact hy j u hu
 ·intro v' w' h1 h2 h3
  refine h v' w' ?_ h2;unfold jq;rw[jh,List.flatMap_append];simpa using h1
theorem aaz (E:Fj P α) {R:Nat->cu->List Value->α->Prop} (hRf:∀w cs x,R 0 w cs x->cs=E.f x) (w:cu) {ops:Array Oper} {rest:List Oper} {o:Oper} {a:Act} {Q:Exit->Act->cu->Prop} (hgd:o.guard=none) (s x:Operand)
  (ho:o.op=.call { callee:=.builtin .append,args:=#[s,x],argTypes:=#[E.ST,E.ST] })
  (base g cap:Nat) (xs:List α) (hs:a.eval s=.slice (some ⟨g,0,none⟩) xs.length cap) (hown:jq E w base (.slice (some ⟨g,0,none⟩) xs.length cap) xs)
  (xv:Value) (hx:a.eval x=xv) (ys:List α) (hsl:jc E.sz E.uf R 0 w xv ys) (hb:(xs.length+ys.length)*E.uf<=140737488355328) (hbase:base<=w.heap.size)
  (h:∀g' cap' w',jq E w' base (.slice (some ⟨g',0,none⟩) (xs.length+ys.length) cap') (xs++ys)->w.grownBy w' (some g)->wpList P ops Q rest (a.put o.dst (.slice (some ⟨g',0,none⟩) (xs.length+ys.length) cap')) w'):wpList P ops Q (o::rest) a w:=by
 obtain⟨i,hi,hz0,hz1,hz2⟩:=info_parts E.hi;obtain⟨ax,cx,rfl,_,hn,hel⟩:=hsl;have hlen:xs.length+ys.length<=140737488355328:=ku (Xa _ E.hby) hb
 have hcap:xs.length<=cap:=by
  rcases hown.shape with ⟨hh,_⟩|⟨g1,cap1,hv,_,_,h2⟩
  ·cases hh
  ·simp only[qw] at hv
   obtain⟨_,_,rfl⟩:=hv;exact h2
 cases ax with
 | none =>
  have hy:ys=[]:=by
   cases ys with
   | nil=>rfl
   | cons y ys =>
    obtain⟨b,o,cs,Fe,_⟩:=hel 0 (by simp)
    cases Fe
  subst hy;refine wpList_plain hgd fun K hK=>?_
  have hrun:=run_append_room_src (P:=P) w E.ST E.ST o.type E.T i E.hT hi g 0 xs.length cap (.slice none 0 cx) 0 [] (Src.ofNil w E.hT cx) (by omega) (fun j hj=>by simp at hj) (fun j hj=>by simp at hj);unfold Oper.wp execOp;simp only[ho,resolve,invoke,builtin,Sem.run_bind,Sem.run_pure,Result.andThen_ok,List.map_toArray,Ai,Fv,hs,hx,hrun,Ar];refine hK _ _ ?_;have hsc:w.setCells g (0+xs.length*i.size) []=w:=by simp[World.setCells]
  rw[hsc];have:=h g cap w (by simpa using hown) (World.grownBy.refl w _);simpa using this
 | some ad =>
  have hcellA:∀j u,(ys.flatMap E.f)[j]?=some u->w.cell? (ad.add j)=some u:=fun j u hu=>by
   have hj:j<ys.length*E.sz:=by
    have:=(List.getElem?_eq_some_iff.1 hu).1;rwa[Rl E.f E.sz E.hf] at this
   have hsz:=E.hsz;have hdiv:j / E.sz<ys.length:=Nat.div_lt_of_lt_mul (by rw[Nat.mul_comm];exact hj);have hmod:j % E.sz<E.sz:=Nat.mod_lt _ hsz;have hjj:j / E.sz*E.sz+j % E.sz=j:=by rw[Nat.mul_comm];exact Nat.div_add_mod j E.sz
   obtain⟨b,oo,cs,Fe,_,_,hl,hc,hR⟩:=hel (j / E.sz) hdiv;simp only[uw] at Fe;subst Fe;have ecs:=hRf _ _ _ hR;subst ecs;have hg:=flat_get E.f E.sz E.hf ys (j / E.sz) hdiv (j % E.sz) hmod;rw[hjj,hu] at hg;obtain⟨hjl,hju⟩:=List.getElem?_eq_some_iff.1 hg.symm;have hcc:=hc (j % E.sz) hjl;rw[hju] at hcc;rw[Addr.add_lit,←hcc];congr 2;omega
  refine wpList_append_own w hgd s x E.ST ho base E.T i _ E.sz E.uf E.hT hi hz0 hz1 hz2 E.hz E.hsz _ xs.length (xs.flatMap E.f) hs hown ad ys.length cx (ys.flatMap E.f) hx (Rl E.f E.sz E.hf ys) hcellA (fun u hu=>?_) (by simp[maxLen];omega) hb hbase ?_
  ·obtain⟨y,_,hy⟩:=List.mem_flatMap.1 hu
   exact E.h1 y u hy
  ·intro v' w' h1 h2 h3
   obtain⟨hl,hh⟩:=h1;rcases hh with ⟨rfl,_⟩|⟨g',cap',cur,rfl,hr⟩
   ·have:=h3.1 rfl
    cases this.1
   ·refine h g' cap' w' ⟨?_,Or.inr ⟨g',cap',cur,by rw[jh],?_⟩⟩ h2
    ·rw[jh,List.flatMap_append]
     exact hl
    ·rw[jh,List.flatMap_append]
     exact hr
end
def Gp:Fj Tryz.prog l9 where
 T:=83
 ST:=56
 sz:=3
 uf:=32
 f:=fun t=>[.int .i64 t.op,.int .i64 t.val,.string t.name]
 z:=.agg #[.int .i64 0,.int .i64 0,.string ByteArray.empty]
 hT:=Tryz.underlying56
 hi:=by kernel_rfl
 hz:=rfl
 hf:=fun _=>rfl
 h1:=fun c u hu=>by
  simp only[qj,xq,xu] at hu;rcases hu with rfl|rfl|rfl<;>rfl
 hsz:=by decide
 hby:=by decide
def Xv:Fj Tryz.prog Int where
 T:=3
 ST:=47
 sz:=1
 uf:=8
 f:=fun t=>[.int .i64 t]
 z:=.int .i64 0
 hT:=Tryz.underlying47
 hi:=by kernel_rfl
 hz:=rfl
 hf:=fun _=>rfl
 h1:=fun c u hu=>by
  simp only[qj,xq,xu] at hu;rcases hu with rfl;rfl
 hsz:=by decide
 hby:=by decide
def ny:Fj Tryz.prog dh where
 T:=9
 ST:=40
 sz:=1
 uf:=16
 f:=fun t=>[.string t]
 z:=.string ByteArray.empty
 hT:=Tryz.underlying40
 hi:=by kernel_rfl
 hz:=rfl
 hf:=fun _=>rfl
 h1:=fun c u hu=>by
  simp only[qj,xq,xu] at hu;rcases hu with rfl;rfl
 hsz:=by decide
 hby:=by decide
def jd (w:cu) (g:Nat) (e:TypeId) (cs:Array Value):Prop:=w.heap[g]?=some (.cells cs e (0,0))
theorem jd.lt {w:cu} {g:Nat} {e:TypeId} {cs:Array Value} (h:jd w g e cs):g<w.heap.size:=(Kv.1 h).1
theorem jd.cell {w:cu} {g:Nat} {e:TypeId} {cs:Array Value} (h:jd w g e cs) {i:Nat} {v:Value} (hi:cs[i]?=some v):w.cell? ⟨g,i,none⟩=some v:=by
 unfold jd at h;simp[World.cell?,h,hi]
theorem jd.free {w:cu} {g:Nat} {e:TypeId} {cs:Array Value} (h:jd w g e cs) (i:Nat):w.frozen? ⟨g,i,none⟩=false:=by
 unfold jd at h;simp[World.frozen?,h]
theorem jd.below {w w':cu} {g B:Nat} {e:TypeId} {cs:Array Value} (h:jd w g e cs) (hb:Below B w w') (hg:g<B):jd w' g e cs:=(hb.block g hg).trans h
theorem jd.set {w:cu} {g:Nat} {e:TypeId} {cs:Array Value} (h:jd w g e cs) (i:Nat) (v:Value):jd (w.setCell ⟨g,i,none⟩ v) g e (cs.setIfInBounds i v):=by
 unfold jd at *;simp only[World.setCell,Array.getElem?_modify,if_true,h,Option.map_some];simp
theorem oh (w:cu) (cs:Array Value) (e:TypeId):jd (w.alloc (.cells cs e)) w.heap.size e cs:=by
 show (w.heap.push _)[w.heap.size]?=_;rw[Array.getElem?_push_size]
theorem ext_eq (s:dh) (f i:Nat) (hf:f<=i) (hi:i<=s.size):s.extract f i=Qo (((bL s).drop f).take (i-f)):=by
 apply ByteArray.ext;apply Array.ext';simp[Qo,bL,ByteArray.data_extract,Array.toList_extract,List.extract]
theorem ajz (s:dh) (i:Nat) (hi:i<s.size):(bL s)[i]'(by rw[Ep];exact hi)=s[i]:=by
 simp only[bL,Array.getElem_toList];rfl
def U9 (c:UInt8) (s:dh) (P:List dh) (f i:Nat):Prop:=f<=i/\P++(cutAt c ((bL s).drop f)).map Qo=wordsOf c s/\c∉((bL s).drop f).take (i-f)
theorem U9.start (c:UInt8) (s:dh):U9 c s [] 0 0:=⟨gu _,rfl,by simp⟩
theorem U9.next {c:UInt8} {s:dh} {P:List dh} {f i:Nat} (h:U9 c s P f i) (hi:i<s.size) (hb:s[i]≠c):U9 c s P f (i+1):=by
 obtain⟨h1,h2,h3⟩:=h;refine⟨by omega,h2,?_⟩;have hl:i-f<((bL s).drop f).length:=by rw[Cc,Ep];omega
 rw[show i+1-f=(i-f)+1 from by omega,Eu hl];intro h9;rcases Dx.1 h9 with h8|h8
 ·exact h3 h8
 ·rw[yt,List.getElem_drop] at h8
  have e:(bL s)[f+(i-f)]'(by rw[Ep];omega)=s[i]:=by
   have:f+(i-f)=i:=by omega
   simp only[this];exact ajz s i hi
  rw[e] at h8;exact hb h8.symm
theorem U9.cut {c:UInt8} {s:dh} {P:List dh} {f i:Nat} (h:U9 c s P f i) (hi:i<s.size) (hb:s[i]=c):U9 c s (P++[s.extract f i]) (i+1) (i+1):=by
 obtain⟨h1,h2,h3⟩:=h;refine⟨gu _,?_,by simp⟩;rw[←h2,ext_eq s f i h1 (by omega)]
 have hd:(bL s).drop f=((bL s).drop f).take (i-f)++c::(bL s).drop (i+1):=by
  have h4:=(O8 (i-f) ((bL s).drop f)).symm;have h5:=List.drop_eq_getElem_cons (l:=bL s) (i:=i) (by rw[Ep];exact hi);rw[List.drop_drop,show f+(i-f)=i from by omega,h5,ajz s i hi,hb] at h4;exact h4
 conv=>rhs;rw[hd,Yo _ _ _ h3]
 simp
theorem U9.done {c:UInt8} {s:dh} {P:List dh} {f:Nat} (h:U9 c s P f s.size):P++[s.extract f s.size]=wordsOf c s:=by
 obtain⟨h1,h2,h3⟩:=h
 have e:((bL s).drop f).take (s.size-f)=(bL s).drop f:=by
  rw[P8 (by rw[Cc,Ep];omega)]
 rw[e] at h3;rw[←h2,ext_eq s f s.size h1 (gu _),e,Ul _ _ h3];simp
theorem U9.few {c:UInt8} {s:dh} {P:List dh} {f i:Nat} (h:U9 c s P f i):P.length<=s.size:=by
 have h1:=(Au c s).1;have h2:=ni List.length h.2.1;have h3:=E5.2 (abt c ((bL s).drop f));rw[jh,zy] at h2;omega
theorem aj1 (s:dh) (c:UInt8) (w:cu) (hs:s.size<=1048576):Calls Tryz.prog 19 #[.string s,.int .u8 ((c.toNat:Nat):Int)] w (fun e w'=>∃v,e=.returned v/\jq ny w' w.heap.size v (wordsOf c s)/\Below w.heap.size w w'):=by
 obtain⟨PO,Gn⟩:∃PO:Ending->cu->Prop,PO=((fun e w'=>∃v,e=.returned v/\jq ny w' w.heap.size v (wordsOf c s)/\Below w.heap.size w w')):=⟨_,rfl⟩;rw[←Gn];have Dc:=ak Gn;clear Gn;have HST:Hid (jq ny (w.alloc (.cells #[] 9)) w.heap.size (.slice (some ⟨w.heap.size,0,none⟩) 0 0) []/\Below w.heap.size w (w.alloc (.cells #[] 9))):=ak ⟨jq.start _ _ (gu _),(iq _ _).alloc (gu _) _⟩;go_enter Tryz.func19,Tryz.ntmps19;go_wp2
 go_loopg [5,6,7] s.size (fun gh pv fv ix wr=>∃(P:List dh) (f i:Nat),i<=s.size/\gh=s.size-i/\fv=.int .i64 f/\ix=.int .i64 i/\Hid (U9 c s P f i)/\Hid (jq ny wr w.heap.size pv P)/\Hid (Below w.heap.size w wr))
 case atStart=>exact⟨[],0,0,jg _,by omega,rfl,rfl,ak (U9.start c s),ak (uh HST).1,ak (uh HST).2⟩
 case round =>
  obtain⟨P,f,i,hi,hg,rfl,rfl,HC,HO,HB⟩:=hrel;have HG:=ak hg;clear hg HST;have hfi:f<=i:=(uh HC).1;have hfw:=(uh HC).few;obtain⟨pa,pc,hpv⟩:=(uh HO).slice
  by_cases hlt:i<s.size
  ·have hbd:=aal s[i]
   have Kq:(i:Int)<(s.size:Int):=by omega
   by_cases hc:s[i]=c
   ·have HN:=ak ((uh HC).cut hlt hc)
    have q1:(((s[i].toNat:Nat):Int)==((c.toNat:Nat):Int))=true:=by rw[hc];simp
    have hA:Below wr.heap.size wr (wr.alloc (.cells #[.string (s.extract f i)] 9)):=(iq _ _).alloc (gu _) _;have Oh:=ak ((uh HO).below hA);have H4:=ak ((uh HB).trans (hA.mono (uh HB).size));have Q8:=ak ((uh HB).trans (hA.mono (uh HB).size)).size;have Qz:Hid ((P.length+1)*16<=140737488355328):=ak (by omega);clear hA hc hpv;go_wp2_with (at_builtin;go_must (refine Am ny _ rfl _ _ rfl w.heap.size _ P rfl (uh Oh) wr.heap.size (s.extract f i) rfl (fun j u hu=>by rw[zu _ _ _ _ rfl];simpa[ny] using hu) (uh Qz) (uh Q8) ?_));intro v' w5 yh hg5;have HO5:=ak yh;have Gx:=ak ((uh Oh).grown (uh H4) hg5 (uh Q8) (gu _));clear yh hg5;go_wp2
    go_roundg (s.size-(i+1))
    case measure=>have:=uh HG;omega
    case rel=>exact⟨P++[s.extract f i],i+1,i+1,by omega,rfl,by go_num,by go_num,HN,HO5,Gx⟩
   ·have HN:=ak ((uh HC).next hlt hc)
    have q1:(((s[i].toNat:Nat):Int)==((c.toNat:Nat):Int))=false:=by
     rw[su];intro h9;exact hc (UInt8.toNat_inj.1 (by omega))
    clear hc hpv;go_wp2
    go_roundg (s.size-(i+1))
    case measure=>have:=uh HG;omega
    case rel=>exact⟨P,f,i+1,by omega,rfl,rfl,by go_num,HN,HO,HB⟩
  ·have e:i=s.size:=by omega
   have HD:Hid (P++[s.extract f s.size]=wordsOf c s):=ak (by have h9:=uh HC;rw[e] at h9;exact h9.done);have Kq:¬(i:Int)<(s.size:Int):=by omega
   have hfs:f<=s.size:=by omega
   have hA:Below wr.heap.size wr (wr.alloc (.cells #[.string (s.extract f s.size)] 9)):=(iq _ _).alloc (gu _) _;have Oh:=ak ((uh HO).below hA);have H4:=ak ((uh HB).trans (hA.mono (uh HB).size));have Q8:=ak ((uh HB).trans (hA.mono (uh HB).size)).size;have Qz:Hid ((P.length+1)*16<=140737488355328):=ak (by omega);clear hA hpv e;go_wp2_with (at_builtin;go_must (refine Am ny _ rfl _ _ rfl w.heap.size _ P rfl (uh Oh) wr.heap.size (s.extract f s.size) rfl (fun j u hu=>by rw[zu _ _ _ _ rfl];simpa[ny] using hu) (uh Qz) (uh Q8) ?_));intro v' w5 yh hg5
   have qx:Hid (PO (.returned v') w5):=ak (by
    rw[uh Dc];exact⟨v',rfl,by rw[←uh HD];exact yh,(uh Oh).grown (uh H4) hg5 (uh Q8) (gu _)⟩)
   obtain⟨va,vc,hv'⟩:=yh.slice;clear yh hg5;go_wp2
   first|exact uh qx|(rw[←hv'];exact uh qx)|(go_ret;exact uh qx)
end Go.Proofs.YtfeejeflmcapoaaGreatDoor
