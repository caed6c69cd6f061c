import Derived.Test.YtfeejeflmcapoaaGreatDoorRG2
import Derived.Test.YtfeejeflmcapoaaGreatDoorMQ2
import Derived.Lib.AtoiAllCases
set_option linter.unusedSimpArgs false
set_option linter.unusedVariables false
namespace Go.Proofs.YtfeejeflmcapoaaGreatDoor
open Go.RowKit
def D9 (ps:List dh):Nat:=(ps.map (fun p=>p.size+1)).sum
theorem ak7:D9 []=0:=rfl
theorem Nz (p:dh) (ps:List dh):D9 (p::ps)=p.size+1+D9 ps:=by simp[D9]
theorem ahd (a b:List dh):D9 (a++b)=D9 a+D9 b:=by simp[D9]
theorem Qr:∀(f:List dh) (i:Nat),(fA f i).size<=D9 f∧(i<f.length->(fA f i).size+1+D9 (f.drop (i+1))<=D9 (f.drop i)):=by
 intro f
 induction f with
 | nil=>intro i;exact⟨by unfold fA;simp;decide,fun h=>absurd h (yt _)⟩
 | cons p f ih =>
  intro i
  cases i with
  | zero =>
   have e:fA (p::f) 0=p:=rfl;rw[e];refine⟨by rw[Nz];omega,fun _=>?_⟩;rw[show (p::f).drop (0+1)=f from rfl,show (p::f).drop 0=p::f from rfl,Nz];omega
  | succ i =>
   have e:fA (p::f) (i+1)=fA f i:=rfl;rw[e];obtain⟨h1,h2⟩:=ih i;exact⟨by rw[Nz];omega,fun h=>h2 (by simpa using h)⟩
theorem aix (f:List dh) (i:Nat):D9 (f.drop i)<=D9 f:=by
 have h:=mg D9 (Pj i f);rw[ahd] at h;omega
theorem arp (ps:List dh):oq Gq (Dx ps)<=D9 ps:=by
 induction ps with
 | nil=>simp[Dx,oq,D9]
 | cons p ps ih =>
  have h:=(ape p).1
  have e:oq Gq (Dx (p::ps))=1+Gq (Jg p)+oq Gq (Dx ps):=by
   unfold oq Dx;simp only[Ap,uf,List.sum_cons,Ad];omega
  rw[e,Nz];unfold Gq at *;omega
theorem axl (ps:List dh):oq Qw ps=D9 ps:=by
 induction ps with
 | nil=>rfl
 | cons p ps ih =>
  have e:oq Qw (p::ps)=1+Qw p+oq Qw ps:=by
   unfold oq;simp only[Ap,uf,List.sum_cons];omega
  rw[e,Nz,ih];unfold Qw;omega
theorem bcp:∀(ps:List dh),((cutAt Cb ps).map (fun l=>1+D9 l)).sum<=D9 ps+1:=by
 intro ps
 induction ps with
 | nil=>exact gq _
 | cons p ps ih =>
  rw[cutAt];have e:=Uh Cb ps
  split
  ·rename_i h
   simp only[Ap,List.sum_cons,ak7,Nz];omega
  ·rw[e] at ih
   simp only[Ap,List.sum_cons,Nz] at ih ⊢;omega
theorem a5y (ps:List dh):oq (oq Gq) (abm ps)<=D9 ps+1:=by
 unfold abm
 split
 ·simp[oq]
 ·refine jq ?_ (bcp ps)
  unfold oq;rw[Ad,List.map_map];generalize cutAt Cb ps=ls
  induction ls with
  | nil=>simp
  | cons l ls ih =>
   have h:=arp l;simp only[Ap,uf,List.sum_cons,Function.comp] at ih ⊢;unfold oq at h;omega
theorem Am {α:Type} (g:α->Nat) (xs:List α) (x:α):oq g (xs++[x])=oq g xs+1+g x:=by
 unfold oq;simp only[je,Il,List.sum_append,uf,A8,Ap,Gf,List.sum_cons,List.sum_nil];omega
theorem a3v (f:List dh) (p q:Nat) (h:p<=q):D9 (vw f p q)+D9 (f.drop q)<=D9 (f.drop p):=by
 unfold vw;have e:=Pj (q-p) (f.drop p);have h2:=mg D9 e;rw[ahd,List.drop_drop,show p+(q-p)=q from by omega] at h2;omega
theorem Yc (f:List dh) (s:dh):jd f s<(f.length:Int):=by
 unfold jd
 cases h:f.findIdx? (fun x=>x.toList == s.toList) with
 | none=>simp;omega
 | some i =>
  have h9:=List.findIdx?_eq_some_iff_getElem.1 h;obtain⟨h8,_⟩:=h9;simp only;omega
theorem arq (cs:List dw) (cu:dh) (f:List dh) (k:dw) (hne:f≠[]):qx (lineS cs cu f k)<=qx k+D9 f:=by
 have hl:1<=f.length:=Bg.2 hne;have p0:=(Qr f 0).2 (by omega);have d0:D9 (f.drop 0)=D9 f:=rfl;have p1:=(Qr f 1).1;have p1':=(Qr f 1).2;have p2':=(Qr f 2).2;have d3:=arp (f.drop 3);have pl:=Yc f ou;simp only[Bh] at p0;simp only[Nat.reduceAdd] at p1' p2';have one:2<=f.length->(fA f 1).size+2<=D9 f:=fun h=>by have:=p1' (by omega);omega
 have z:oq Qw []=0∧oq Gq []=0∧oq (oq Gq) []=0:=by decide
 have zn:E0.size=0:=rfl;unfold lineS
 by_cases h1:fA f 0=Ik∧f.length=3
 ·rw[gu h1]
  simp only[qx,Am,Ul];have:=one (by omega);omega
 rw[ay h1]
 by_cases h2:fA f 0=Ee∧f.length=3
 ·rw[gu h2]
  simp only[qx,Am,Ul];have:=one (by omega);omega
 rw[ay h2]
 by_cases h3:fA f 0=Eo∧f.length=2
 ·rw[gu h3]
  simp only[qx,Am,Qw];have:=one (by omega);omega
 rw[ay h3]
 by_cases h4:fA f 0=Ep∧f.length=2
 ·rw[gu h4]
  simp only[qx,je,uf,A8];have:=one (by omega);omega
 rw[ay h4]
 by_cases h5:fA f 0=Es∧f.length=2
 ·rw[gu h5]
  cases af7 cs (fA f 1) with
  | some i=>simp only[qx,je,uf,A8];have:=one (by omega);omega
  | none=>simp only;omega
 rw[ay h5]
 by_cases h6:fA f 0=Jf∧jd f ou=2
 ·rw[gu h6]
  simp only[Dw,qx,Am,Nv,z.1,z.2.2];have:=p1' (by omega);have:=p2' (by omega);omega
 rw[ay h6]
 by_cases h7:fA f 0=F8∧jd f ou=2
 ·rw[gu h7]
  simp only[Dw,qx,Am,Nv,z.1,z.2.2,zn];have:=p1' (by omega);have:=p2' (by omega);omega
 rw[ay h7]
 by_cases h8:fA f 0=Qn∧f.length=2
 ·rw[gu h8]
  simp only[Dw,qx,Am,Nv,z.1,z.2.1,z.2.2];have:=one (by omega);omega
 rw[ay h8]
 by_cases h9:cu=Cj
 ·rw[gu h9]
  simp only[Dw,qx,Am,Nv,z.1,z.2.1,z.2.2,zn];omega
 rw[ay h9]
 by_cases h10:cu=Fz
 ·rw[gu h10]
  simp only[Dw,qx,Am,Nv,z.1,z.2.1,z.2.2,zn];omega
 rw[ay h10]
 by_cases h11:fA f 0=Ac∧2<jd f ou
 ·rw[gu h11]
  obtain⟨c,hc⟩:=H8 (show 0<=jd f ou by omega);rw[hc] at h11 pl ⊢;simp only[En];have a1:=a5y (f.drop (c+1));have a2:=a3v f 2 c (by omega);have a3:=(Qr f c).2 (by omega);have a4:=p1' (by omega);have a5:=axl (vw f 2 c);simp only[Dw,qx,Am,Nv,z.2.1,zn,a5];omega
 rw[ay h11];omega
theorem bcq (cs:List dw) (g:dw->dw) (n:Nat) (h:∀k,qx (g k)<=qx k+n):oq qx (upL cs g)<=oq qx cs+n:=by
 rcases List.eq_nil_or_concat cs with rfl|⟨a,k,rfl⟩
 ·rw[ak5];omega
 ·rw[List.concat_eq_append,Ae,Am,Am]
  have:=h k;omega
theorem ami (cs:List dw) (cu:dh) (f:List dh) (k:dw) (h0:fA f 0=vg) (h1:cu≠Cj) (h2:cu≠Fz):lineS cs cu f k=k:=by
 unfold lineS;rw[h0,ay (fun h9=>absurd h9.1 (by decide)),ay (fun h9=>absurd h9.1 (by decide)),ay (fun h9=>absurd h9.1 (by decide)),ay (fun h9=>absurd h9.1 (by decide)),ay (fun h9=>absurd h9.1 (by decide)),ay (fun h9=>absurd h9.1 (by decide)),ay (fun h9=>absurd h9.1 (by decide)),ay (fun h9=>absurd h9.1 (by decide)),ay h1,ay h2,ay (fun h9=>absurd h9.1 (by decide))]
theorem aj7 (cu:dh) (h:fA (wordsOf 32 cu) 0=vg):cu≠Cj∧cu≠Fz:=⟨fun e=>by rw[e] at h;exact absurd h (by decide),fun e=>by rw[e] at h;exact absurd h (by decide)⟩
theorem a5z (cs:List dw) (cu:dh):oq qx (stepS cs cu)<=oq qx cs+cu.size+1:=by
 have hw:=(yg 32 cu).2;have hne:=Aj 32 cu;have hps:D9 (wordsOf 32 cu)=cu.size+1:=hw;have hcl:=aj7 cu;unfold stepS Iz;generalize wordsOf 32 cu=f at *
 by_cases hc:fA f 0=vg∧f.length=2
 ·rw[gu hc,Ae,ami _ _ _ _ hc.1 (hcl hc.1).1 (hcl hc.1).2,Am]
  have p0:=(Qr f 0).2 (by omega);have p1:=(Qr f 1).2 (by omega);have d0:D9 (f.drop 0)=D9 f:=rfl;have e:qx (K0 (fA f 1))=(fA f 1).size:=rfl;have z0:(fA f 0).size=5:=by rw[hc.1];rfl
  simp only[Bh,Nat.reduceAdd] at p0 p1;omega
 ·rw[ay hc]
  have h9:=bcq cs (lineS cs cu f) (D9 f) (fun k=>arq cs cu f k hne);omega
theorem bag (ls:List dh):∀cs,oq qx (ls.foldl stepS cs)<=oq qx cs+D9 ls:=by
 induction ls with
 | nil=>intro cs;exact Nat.le_add_right _ _
 | cons l ls ih =>
  intro cs;rw[List.foldl_cons,Nz];have h1:=ih (stepS cs l);have h2:=a5z cs l;omega
def Ot (p:dh):Int:=match Lib.atoiAll (bL p) with|.ok v=>v|.syntax=>0|.range=>Lib.atoiSat (bL p)
theorem aeb (p:dh):I64 (Ot p):=by
 unfold Ot I64
 cases h:Lib.atoiAll (bL p) with
 | ok v=>have h9:=Lib.atoiAll_bounds h;simp only;omega
 | «syntax»=>simp only;omega
 | range=>have h9:=Lib.atoiSat_bounds (bL p);simp only;omega
theorem aue (b:UInt8) (hb:V4 b=true):∀(l:List UInt8) (acc u:Nat),Lib.parseUint10 acc l=.ok u->u*10+(b.toNat-48)<18446744073709551616->u<1844674407370955162->Lib.parseUint10 acc (l++[b])=.ok (u*10+(b.toNat-48)):=by
 have yu:=xq hb;intro l
 induction l with
 | nil =>
  intro acc u h h1 h2;simp only[Lib.parseUint10] at h;injection h with h;subst h;rw[Gu,Lib.parseUint10,gu yu,ay (by omega),ay (by omega),Lib.parseUint10]
 | cons c l ih =>
  intro acc u h h1 h2;rw[Lib.parseUint10] at h;rw[Fe,Lib.parseUint10]
  by_cases c1:48<=c.toNat∧c.toNat<=57
  ·rw[gu c1] at h ⊢
   by_cases c2:1844674407370955162<=acc
   ·rw[gu c2] at h;cases h
   rw[ay c2] at h ⊢
   by_cases c3:18446744073709551616<=acc*10+(c.toNat-48)
   ·rw[gu c3] at h;cases h
   rw[ay c3] at h ⊢;exact ih _ _ h h1 h2
  ·rw[ay c1] at h;cases h
theorem amj:∀(u:Nat),u<=4294967296->Lib.parseUint10 0 (Lib.decDigits u)=.ok u:=by
 intro u
 induction u using Nat.strongRecOn with
 | ind u ih =>
  intro h;rw[Lib.decDigits]
  have hd:∀d,d<10->V4 (UInt8.ofNat (48+d))=true:=fun d hd=>by
   unfold V4;rw[Yt d hd];exact jf ⟨by omega,by omega⟩
  by_cases c:u<10
  ·rw[dif_pos c,Lib.parseUint10,Yt u c,gu ⟨by omega,by omega⟩,ay (by omega),ay (by omega),Lib.parseUint10]
   congr 1;omega
  ·rw[dif_neg c,aue _ (hd _ (by omega)) _ _ (u / 10) (ih (u / 10) (by omega) (by omega)) (by rw[Yt _ (by omega)];omega) (by omega),Yt _ (by omega)]
   congr 1;omega
theorem ab8 (v:Int) (h:Oh v):Ot (qm v)=v:=by
 unfold Oh at h;unfold Ot;rw[ad7];unfold Lib.itoa
 by_cases c:v<0
 ·rw[gu c,Lib.atoiAll_minus]
  obtain⟨b,l,h1,h2,_⟩:=V5 v.natAbs
  have h3:Lib.parseMag (Lib.decDigits v.natAbs)=.ok v.natAbs:=by
   unfold Lib.parseMag;rw[ay (by rw[h1];simp),amj _ (by omega)]
  rw[h3];simp only[Lib.signed];rw[ay (by omega)];simp only;omega
 ·rw[ay c]
  obtain⟨b,l,h1,h2,_⟩:=V5 v.toNat
  have h3:Lib.parseMag (Lib.decDigits v.toNat)=.ok v.toNat:=by
   unfold Lib.parseMag;rw[ay (by rw[h1];simp),amj _ (by omega)]
  have h4:=xq h2;rw[h1,Lib.atoiAll_plain b l (by omega) (by omega),←h1,h3];simp only[Lib.signless];rw[ay (by omega)];simp only;omega
def V6 (p:dh):Int:=match (List.range 17).find? (fun i=>decide (Dq i=p)) with|some i=>(i:Int)+4|none=>0
def ab9 (p:dh):Bool:=match bL p with|[]=>false|b::_=>V4 b
def Hq (p:dh):ku :=
 if (bL p).head?=some 46 then ⟨3,0,Ko p⟩ else if (bL p).head?=some 64 then ⟨25,Ot (Ko p),E0⟩ else if p=N9 then ⟨2,1,E0⟩ else if p=J5 then ⟨2,0,E0⟩ else if ab9 p=true then ⟨1,Ot p,E0⟩ else ⟨V6 p,0,E0⟩
def Bf (ps:List dh):List ku:=ps.map Hq
def Ut {α:Type} (ls:List (List α)):List (List α):=match ls.getLast? with|some []=>ls.dropLast|_=>ls
def P7 (ps:List dh):List (List ku):=(Ut (cutAt Cb ps)).map Bf
def Hl (t:dh):List dh:=(Ut (cutAt 10 (bL t))).map Qv
theorem aj8 {α:Type} (a:List α) (l:List (List α)) (h:l≠[]):Ut (a::l)=a::Ut l:=by
 obtain⟨b,x,rfl⟩:∃b x,l=b++[x]:=by
  rcases List.eq_nil_or_concat l with h9|⟨b,x,h9⟩
  ·exact absurd h9 h
  ·exact⟨b,x,by rw[h9,List.concat_eq_append]⟩
 unfold Ut;rw[show a::(b++[x])=(a::b)++[x] from rfl,List.getLast?_concat,List.getLast?_concat,List.dropLast_concat,List.dropLast_concat]
 cases x<;>rfl
theorem apf {α:Type} (a:List α) (h:a≠[]):Ut [a]=[a]:=by
 cases a with
 | nil=>exact absurd rfl h
 | cons x a=>rfl
theorem apg {α:Type} [DecidableEq α] (c:α) (a l:List α) (h:c∉a):Ut (cutAt c (a++c::l))=a::Ut (cutAt c l):=by
 rw[Yr c a l h,aj8 _ _ (abw c l)]
theorem amk:P7 []=[]:=rfl
theorem auf (ps:List dh) (hn:ps≠[]) (h:Cb∉ps):P7 ps=[Bf ps]:=by
 unfold P7;rw[Ur _ _ h,apf _ hn];rfl
theorem axn (a l:List dh) (h:Cb∉a):P7 (a++Cb::l)=Bf a::P7 l:=by
 unfold P7;rw[apg _ _ _ h];rfl
theorem aug (a l:dh) (t:dh) (ht:bL t=bL a++10::bL l) (h:10∉bL a):Hl t=a::Hl l:=by
 unfold Hl;rw[ht,apg _ _ _ h];show Qv (bL a)::_=_;rw[U2]
def afb (ns:List dh) (x:dh):Option Nat:=(ns.reverse.findIdx? (fun y=>decide (y=x))).map (fun j=>ns.length-1-j)
theorem aj9 (ns:List dh) (nm x:dh):afb (ns++[nm]) x=if nm=x then some ns.length else afb ns x:=by
 unfold afb;rw[List.reverse_append,List.reverse_cons,List.reverse_nil,Gu,List.singleton_append,List.findIdx?_cons]
 by_cases h:nm=x
 ·rw[gu h,jf h]
  simp
 ·rw[ay h,iw h]
  simp only[Bool.false_eq_true,if_false,Option.map_map];congr 1;funext j;simp only[Function.comp,je,uf,A8];omega
theorem a1h (ns:List dh) (x:dh) (i:Nat) (h:afb ns x=some i):i<ns.length:=by
 rcases List.eq_nil_or_concat ns with h9|⟨b,y,h9⟩
 ·subst h9;cases h
 ·unfold afb at h
  rw[Option.map_eq_some_iff] at h;obtain⟨j,_,rfl⟩:=h;have:1<=ns.length:=by rw[h9];simp
  omega
theorem a1i:∀(n:Nat) (ns:List dh),ns.length=n->∀(g:Nat) (hg:g<ns.length),(∀j (hj:j<ns.length),g<j->ns[j]≠ns[g])->afb ns ns[g]=some g:=by
 intro n
 induction n with
 | zero=>intro ns hn g hg;omega
 | succ n ih =>
  intro ns hn g hg h
  obtain⟨b,y,rfl⟩:∃b y,ns=b++[y]:=by
   rcases List.eq_nil_or_concat ns with h9|⟨b,x,h9⟩
   ·rw[h9] at hn;cases hn
   ·exact⟨b,x,by rw[h9,List.concat_eq_append]⟩
  rw[je,Ob] at hg hn;rw[aj9]
  by_cases c:g=b.length
  ·subst c
   rw[gu (by simp)]
  ·have hgb:g<b.length:=by omega
   have e:(b++[y])[g]'(by simp;omega)=b[g]:=Rh hgb;have hy:=h b.length (by simp) hgb;rw[e] at hy ⊢;rw[ay (by simpa using hy)];refine ih b (by omega) g hgb (fun j hj hlt=>?_);have h9:=h j (by simp;omega) hlt;rw[e,Rh hj] at h9;exact h9
def N7 (cs:List dw) (x:dh):Option Nat:=afb (cs.map (·.name)) x
def Ll (f:List dh):jw:=⟨fA f 1,if fA f 2=ae5 then 2 else 1⟩
def adg (f:List dh):lu:=⟨3,E0,Ot (fA f 1),vw f 2 (jd f ou).toNat,[],P7 (f.drop (jd f ou+1).toNat)⟩
def N8 (f:List dh):lu :=
 if fA f 0=Jf then ⟨1,fA f 1,0,[],Bf (f.drop 3),[]⟩
 else if fA f 0=F8 then ⟨2,E0,Ot (fA f 1),[],Bf (f.drop 3),[]⟩
 else if fA f 0=Ac then adg f
 else if fA f 0=Qn then ⟨4,fA f 1,0,[],[],[]⟩
 else if fA f 0=Cj then ⟨5,E0,0,[],[],[]⟩
 else if fA f 0=Fz then ⟨6,E0,0,[],[],[]⟩
 else ⟨0,E0,0,[],[],[]⟩
def Jh (cs:List dw) (f:List dh) (k:dw):dw :=
 if fA f 0=Ik then { k with ins:=k.ins++[Ll f] }
 else if fA f 0=Ee then { k with ak:=k.ak++[Ll f] }
 else if fA f 0=Eo then { k with iq:=k.iq++[fA f 1] }
 else if fA f 0=Ep then { k with eu:=k.eu++[Ot (fA f 1)] }
 else if fA f 0=Es then { k with au:=k.au++[(((N7 cs (fA f 1)).getD 0:Nat):Int)] }
 else if fA f 0=Pz then k
 else Dw k (N8 f)
def Vf (cs:List dw) (f:List dh):List dw:=if fA f 0=vg then cs++[K0 (fA f 1)] else upL cs (Jh cs f)
def Nb (cs:List dw) (cu:dh):List dw:=Vf cs (wordsOf 32 cu)
def Ou (t:dh):List dw:=(Hl t).foldl Nb []
theorem agm (p:dh) (b:UInt8) (l:List UInt8) (h:bL p=b::l):ab9 p=V4 b:=by
 unfold ab9;rw[h]
theorem auh (t:ku) (h:S9 t):Hq (partT t)=t:=by
 obtain⟨op,val,name⟩:=t;unfold Hq;rcases h.op with h1|h1
 case inr =>
  simp only at h1;subst h1;have hn:=h.Yb (show ¬(25:Int)=3 by decide);have hc:=h.cell rfl;simp only at hn hc;have e:partT ⟨25,val,name⟩=Wat++qm val:=rfl;have eb:bL (Wat++qm val)=64::bL (qm val):=by rw[Rn];rfl
  rw[e,eb,ay (show ¬(64::bL (qm val)).head?=some 46 from fun h9=>absurd (G9 h9) (by decide)),gu (show (64::bL (qm val)).head?=some 64 from rfl),show Ko (Wat++qm val)=qm val from by unfold Ko;rw[eb];exact U2 _,ab8 _ (by unfold Oh;omega),hn]
 by_cases c1:op=1
 ·subst c1
  have hn:=h.Yb (show ¬(1:Int)=3 by decide);have hc:=h.num rfl;simp only at hn hc;have e:partT ⟨1,val,name⟩=qm val:=rfl;obtain⟨b,l,g1,g2,_⟩:=V5 val.toNat;have eb:bL (qm val)=b::l:=by rw[ad7];unfold Lib.itoa;rw[ay (by omega),g1]
  have n1:¬qm val=N9:=fun h9=>by
   have h8:=mg bL h9;rw[eb] at h8;rw[(List.cons.inj h8).1] at g2;exact absurd g2 (by decide)
  have n2:¬qm val=J5:=fun h9=>by
   have h8:=mg bL h9;rw[eb] at h8;rw[(List.cons.inj h8).1] at g2;exact absurd g2 (by decide)
  have n3:¬(bL (qm val)).head?=some 46:=by
   rw[eb];intro h9;have h8:b=46:=by simpa using h9
   rw[h8] at g2;exact absurd g2 (by decide)
  have n4:¬(bL (qm val)).head?=some 64:=by
   rw[eb];intro h9;have h8:b=64:=by simpa using h9
   rw[h8] at g2;exact absurd g2 (by decide)
  rw[e,ay n3,ay n4,ay n1,ay n2,agm _ _ _ eb,gu g2,ab8 _ (by unfold Oh;omega),hn]
 by_cases c2:op=2
 ·subst c2
  have hn:=h.Yb (show ¬(2:Int)=3 by decide);simp only at hn;rcases h.tru rfl with hv|hv
  ·simp only at hv
   subst hv hn;have e:partT ⟨2,0,E0⟩=J5:=rfl;rw[e,ay (by decide),ay (by decide),ay (by decide),gu rfl]
  ·simp only at hv
   subst hv hn;have e:partT ⟨2,1,E0⟩=N9:=rfl;rw[e,ay (by decide),ay (by decide),gu rfl]
 by_cases c3:op=3
 ·subst c3
  have hv:=h.am7 (Or.inl rfl);simp only at hv;subst hv;have e:partT ⟨3,0,name⟩=Zf++name:=rfl;have eb:bL (Zf++name)=46::bL name:=by rw[Rn];rfl
  rw[e,eb,gu (show (46::bL name).head?=some 46 from rfl),show Ko (Zf++name)=name from by unfold Ko;rw[eb];exact U2 _]
 ·have hr:4<=op∧op<=20:=by simp only at h1;omega
  obtain⟨i,hi,ho,hp⟩:=ak4 ⟨op,val,name⟩ hr;have hv:=h.am7 (Or.inr hr);have hn:=h.Yb c3;simp only at ho hv hn;have hh:=apc ⟨i,hi⟩;have hs:=ab7 ⟨i,hi⟩;simp only at hh hs;rw[hp]
  cases hb:bL (Dq i) with
  | nil=>rw[hb] at hh;cases hh
  | cons b l =>
   rw[hb] at hh;simp only[a1e,uq,Bool.not_eq_true',decide_eq_true_eq] at hh;rw[ay (show ¬(b::l).head?=some 46 from fun h9=>hh.2.1 (G9 h9)),ay (show ¬(b::l).head?=some 64 from fun h9=>hh.2.2 (G9 h9)),ay hs.2.2.1,ay hs.2.2.2,agm _ _ _ hb,hh.1,ay (by simp)];unfold V6;rw[aj3 ⟨i,hi⟩];simp only;rw[←ho,hv,hn]
theorem ahe (c:List ku) (h:∀t,t∈c->S9 t):Bf (tu c)=c:=by
 unfold Bf tu;rw[List.map_map];conv=>rhs;rw[←List.map_id c]
 exact List.map_congr_left (fun t ht=>auh t (h t ht))
theorem a6a (Ai:List (List ku)) (h:∀c,c∈Ai->c≠[]∧∀t,t∈c->S9 t):P7 (uy Ai Ai.length)=Ai:=by
 unfold P7;rcases List.eq_nil_or_concat Ai with e|⟨b,x,e⟩
 ·subst e
  rfl
 ·rw[List.concat_eq_append] at e
  subst e;have hl:1<=(b++[x]).length:=by simp
  have h9:=apd (b++[x]) (fun c hc=>(h c hc).2) _ (gq _) [] (by simp) hl;rw[Az,Az] at h9;have e1:(b++[x]).length-1=b.length:=by simp
  have e2:(b++[x]).getD b.length []=x:=by rw[yw,Ux (gq _),Nat.sub_self];rfl
  rw[e1,e2,List.take_left' rfl] at h9;rw[h9];have hx:=h x (by simp);have hne:tu x≠[]:=fun e9=>hx.1 (by simpa[tu] using e9)
  have e3:Ut (b.map tu++[tu x])=b.map tu++[tu x]:=by
   unfold Ut;rw[List.getLast?_concat]
   cases hc:tu x with
   | nil=>exact absurd hc hne
   | cons y l=>rfl
  rw[e3,Il,List.map_map,Ap,Gf,ahe _ hx.2];congr 1;conv=>rhs;rw[←List.map_id b]
  exact List.map_congr_left (fun c hc=>ahe c (h c (List.mem_append_left _ hc)).2)
theorem bah (s:lu) (h:ae1 s):N8 (xu s)=s∧fA (xu s) 0∈[Jf,F8,Ac,Qn,Cj,Fz]:=by
 obtain⟨kd,nm,at_,ak,code,args⟩:=s;have hk:=h.kind;simp only at hk
 by_cases c1:kd=1
 ·subst c1
  have e:xu ⟨1,nm,at_,ak,code,args⟩=[Jf,nm]++ou::tu code:=rfl;have h1:=h.ak6 (by simp) (by simp);have h2:=h.agl (by simp);simp only at h1 h2;obtain⟨h2,h3⟩:=h2;subst h1 h2 h3;rw[e];have f0:fA ([Jf,nm]++ou::tu code) 0=Jf:=rfl;have f1:fA ([Jf,nm]++ou::tu code) 1=nm:=rfl;have f3:([Jf,nm]++ou::tu code).drop 3=tu code:=rfl;refine⟨?_,by rw[f0];simp⟩;unfold N8;rw[f0,f1,f3,gu rfl,ahe _ h.code]
 by_cases c2:kd=2
 ·subst c2
  have e:xu ⟨2,nm,at_,ak,code,args⟩=[F8,qm at_]++ou::tu code:=rfl;have hn:=h.Yb (by simp) (by simp);have h1:=h.at_ (Or.inl rfl);have h2:=h.agl (by simp);simp only at hn h1 h2;obtain⟨h2,h3⟩:=h2;subst hn h2 h3;rw[e];have f0:fA ([F8,qm at_]++ou::tu code) 0=F8:=rfl;have f1:fA ([F8,qm at_]++ou::tu code) 1=qm at_:=rfl;have f3:([F8,qm at_]++ou::tu code).drop 3=tu code:=rfl;refine⟨?_,by rw[f0];simp⟩;unfold N8;rw[f0,f1,f3,ay (by decide),gu rfl,ahe _ h.code,ab8 _ (by unfold Oh;omega)]
 by_cases c3:kd=3
 ·subst c3
  have e:xu ⟨3,nm,at_,ak,code,args⟩=(Ac::qm at_::ak)++ou::uy args args.length:=by
   show [Ac,qm at_]++ak++[ou]++uy args args.length=_;simp
  have hn:=h.Yb (by simp) (by simp);have h1:=h.at_ (Or.inr rfl);have h2:=h.ad9 (by simp) (by simp);have ho:=h.ak rfl;simp only at hn h1 h2 ho;subst hn h2
  have hpl:=acz (Ac::qm at_::ak) (uy args args.length) (fun x hx=>by
   simp only[ql] at hx;rcases hx with rfl|rfl|hx
   ·decide
   ·exact(aaz _).col
   ·exact(ho.2 x hx).col)
  have hlc:(Ac::qm at_::ak).length=ak.length+2:=by simp
  rw[hlc] at hpl;have f0:fA ((Ac::qm at_::ak)++ou::uy args args.length) 0=Ac:=rfl;have f1:fA ((Ac::qm at_::ak)++ou::uy args args.length) 1=qm at_:=rfl;rw[e];refine⟨?_,by rw[f0];simp⟩;unfold N8;rw[f0,ay (by decide),ay (by decide),gu rfl];unfold adg;rw[hpl,f1,En,ab8 _ (by unfold Oh;omega),show (((ak.length+2:Nat):Int)+1).toNat=ak.length+2+1 from by omega]
  have e4:vw ((Ac::qm at_::ak)++ou::uy args args.length) 2 (ak.length+2)=ak:=by
   unfold vw;simp
  have e5:((Ac::qm at_::ak)++ou::uy args args.length).drop (ak.length+2+1)=uy args args.length:=by
   rw[show (Ac::qm at_::ak)++ou::uy args args.length=(Ac::qm at_::(ak++[ou]))++uy args args.length from by simp];exact List.drop_left' (by simp)
  rw[e4,e5,a6a _ h.args]
 by_cases c4:kd=4
 ·subst c4
  have e:xu ⟨4,nm,at_,ak,code,args⟩=[Qn,nm]:=rfl;have h1:=h.ak6 (by simp) (by simp);have h2:=h.agl (by simp);have h4:=h.ad9 (by simp) (by simp);simp only at h1 h2 h4;obtain⟨h2,h3⟩:=h2;subst h1 h2 h3 h4;rw[e];have f0:fA [Qn,nm] 0=Qn:=rfl;have f1:fA [Qn,nm] 1=nm:=rfl;refine⟨?_,by rw[f0];simp⟩;unfold N8;rw[f0,f1,ay (by decide),ay (by decide),ay (by decide),gu rfl]
 have hn:=h.Yb c1 c4;have h1:=h.ak6 c2 c3;have h2:=h.agl c3;have h4:=h.ad9 c1 c2;simp only at hn h1 h2 h4;obtain⟨h2,h3⟩:=h2;subst hn h1 h2 h3 h4
 by_cases c5:kd=5
 ·subst c5
  have e:xu ⟨5,E0,0,[],[],[]⟩=[Cj]:=rfl;have f0:fA [Cj] 0=Cj:=rfl;rw[e];refine⟨?_,by rw[f0];simp⟩;unfold N8;rw[f0,ay (by decide),ay (by decide),ay (by decide),ay (by decide),gu rfl]
 ·obtain rfl:kd=6:=by omega
  have e:xu ⟨6,E0,0,[],[],[]⟩=[Fz]:=rfl;have f0:fA [Fz] 0=Fz:=rfl;rw[e];refine⟨?_,by rw[f0];simp⟩;unfold N8;rw[f0,ay (by decide),ay (by decide),ay (by decide),ay (by decide),ay (by decide),gu rfl]
theorem aak (a:List dw) (k:dw) (ps:List dh) (hne:ps≠[]) (hno:∀p,p∈ps->32∉bL p) (hc:fA ps 0≠vg):Nb (a++[k]) (oh ps)=a++[Jh (a++[k]) ps k]:=by
 unfold Nb Vf;rw[aby ps hne hno,ay hc,Ae]
theorem Yu {α:Type} (cu:α->dh) (g:dw->α->dw) (a:List dw) (P:dw->Prop) (xs:List α) (hP:∀k x,P k->P (g k x)) (h:∀k x,P k->x∈xs->Nb (a++[k]) (cu x)=a++[g k x]):∀k,P k->(xs.map cu).foldl Nb (a++[k])=a++[xs.foldl g k]∧P (xs.foldl g k):=by
 induction xs with
 | nil=>intro k hk;exact⟨rfl,hk⟩
 | cons x xs ih =>
  intro k hk;rw[Ap,List.foldl_cons,h k x hk (H7 ..)];exact ih (fun k y hk hy=>h k y hk (G8 _ hy)) _ (hP k x hk)
theorem axo (t:Int) (h:t=1∨t=2):(if Bq t=ae5 then (2:Int) else 1)=t:=by
 rcases h with rfl|rfl<;>decide
theorem a6b (a:List dw) (k:dw) (s:jw) (h:Ny s.name) (ht:s.type=1∨s.type=2):Nb (a++[k]) (oh [Ik,s.name,Bq s.type])=a++[{ k with ins:=k.ins++[s] }]:=by
 rw[aak a k _ (by simp) (ajs (by decide) h.no.1 (adx _).1) (by exact(by decide:¬Ik=vg))];have e:=axo s.type ht;unfold Jh Ll;have f0:fA [Ik,s.name,Bq s.type] 0=Ik:=rfl;have f1:fA [Ik,s.name,Bq s.type] 1=s.name:=rfl;have f2:fA [Ik,s.name,Bq s.type] 2=Bq s.type:=rfl;rw[f0,f1,f2,gu rfl,e]
theorem a1j (a:List dw) (k:dw) (s:jw) (h:Ny s.name) (ht:s.type=1∨s.type=2):Nb (a++[k]) (oh [Ee,s.name,Bq s.type])=a++[{ k with ak:=k.ak++[s] }]:=by
 rw[aak a k _ (by simp) (ajs (by decide) h.no.1 (adx _).1) (by exact(by decide:¬Ee=vg))];have e:=axo s.type ht;unfold Jh Ll;have f0:fA [Ee,s.name,Bq s.type] 0=Ee:=rfl;have f1:fA [Ee,s.name,Bq s.type] 1=s.name:=rfl;have f2:fA [Ee,s.name,Bq s.type] 2=Bq s.type:=rfl;rw[f0,f1,f2,ay (by decide),gu rfl,e]
theorem a1k (a:List dw) (k:dw) (x:dh) (h:Ny x):Nb (a++[k]) (oh [Eo,x])=a++[{ k with iq:=k.iq++[x] }]:=by
 rw[aak a k _ (by simp) (aay (by decide) h.no.1) (by exact(by decide:¬Eo=vg))];unfold Jh;have f0:fA [Eo,x] 0=Eo:=rfl;have f1:fA [Eo,x] 1=x:=rfl;rw[f0,f1,ay (by decide),ay (by decide),gu rfl]
theorem a1l (a:List dw) (k:dw) (v:Int) (h:Oh v):Nb (a++[k]) (oh [Ep,qm v])=a++[{ k with eu:=k.eu++[v] }]:=by
 rw[aak a k _ (by simp) (aay (by decide) (aaz v).no.1) (by exact(by decide:¬Ep=vg))];unfold Jh;have f0:fA [Ep,qm v] 0=Ep:=rfl;have f1:fA [Ep,qm v] 1=qm v:=rfl;rw[f0,f1,ay (by decide),ay (by decide),ay (by decide),gu rfl,ab8 v h]
theorem a1m (ks:List dw) (i:Nat) (hi:i<ks.length) (k:dw) (hk:k.name=ks[i].name) (g:Int) (h0:0<=g) (hg:g<(i:Int)) (hn:∀j (hj:j<ks.length),Ny ks[j].name) (hd:∀j l (hj:j<ks.length) (hl:l<ks.length),j<l->ks[j].name≠ks[l].name):Nb (ks.take i++[k]) (oh [Es,Lp ks g])=ks.take i++[{ k with au:=k.au++[g] }]:=by
 rw[akw ks g h0 (by omega),aak _ k _ (by simp) (aay (by decide) (hn g.toNat (by omega)).no.1) (by exact(by decide:¬Es=vg))];unfold Jh;have f0:∀x,fA [Es,x] 0=Es:=fun _=>rfl
 have f1:∀x,fA [Es,x] 1=x:=fun _=>rfl
 rw[f0,f1,ay (by decide),ay (by decide),ay (by decide),ay (by decide),gu rfl]
 have e:(ks.take i++[k]).map (·.name)=(ks.map (·.name)).take (i+1):=by
  rw[Il,List.map_take,Fb (by simpa using hi)];simp[hk]
 have hl:((ks.map (·.name)).take (i+1)).length=i+1:=by simp;omega
 have hat:∀j (hj:j<i+1),((ks.map (·.name)).take (i+1))[j]'(by rw[hl];exact hj)=(ks[j]'(by omega)).name:=fun j hj=>by simp
 have hu:N7 (ks.take i++[k]) (ks[g.toNat]'(by omega)).name=some g.toNat:=by
  unfold N7;rw[e,←hat g.toNat (by omega)];refine a1i _ _ rfl g.toNat (by rw[hl];omega) (fun j hj hlt=>?_);have hj':j<i+1:=by rw[hl] at hj;exact hj
  rw[hat j hj',hat g.toNat (by omega)];exact fun e9=>hd g.toNat j (by omega) (by omega) hlt e9.symm
 rw[hu];simp only[Kz];rw[show ((g.toNat:Nat):Int)=g from by omega]
theorem a1n (a:List dw) (k:dw) (s:lu) (h:ae1 s):Nb (a++[k]) (oh (xu s))=a++[Dw k s]:=by
 have hn:=ady s h;obtain⟨h1,h2⟩:=bah s h;have hno:∀x,x∈[Jf,F8,Ac,Qn,Cj,Fz]->(x≠vg∧x≠Ik∧x≠Ee∧x≠Eo)∧x≠Ep∧x≠Es∧x≠Pz:=by decide
 obtain⟨⟨n0,n1,n2,n3⟩,n4,n5,n6⟩:=hno _ h2;rw[aak a k _ hn.1 (fun p hp=>(hn.2 p hp).1) n0];unfold Jh;rw[ay n1,ay n2,ay n3,ay n4,ay n5,ay n6,h1]
theorem a1o (a:List dw) (nm:dh) (h:Ny nm):Nb a (oh [vg,nm])=a++[K0 nm]:=by
 have hw:=aby [vg,nm] (by simp) (aay (by decide) h.no.1);unfold Nb Vf;rw[hw];have f0:fA [vg,nm] 0=vg:=rfl;have f1:fA [vg,nm] 1=nm:=rfl;rw[f0,f1,gu rfl]
theorem axp (a:List dw) (k:dw):Nb (a++[k]) (oh [Pz])=a++[k]:=by
 rw[aak a k _ (by simp) (fun p hp=>by rw[yj] at hp;rw[hp];decide) (by exact(by decide:¬Pz=vg))];unfold Jh;have f0:fA [Pz] 0=Pz:=rfl;rw[f0,ay (by decide),ay (by decide),ay (by decide),ay (by decide),ay (by decide),gu rfl]
theorem axq {ks:List dw} (h:Py ks=true) (i:Nat) (hi:i<ks.length):(Ia ks ks[i]).foldl Nb (ks.take i)=ks.take (i+1):=by
 have hc:=Xr h i hi;have hnm:∀j (hj:j<ks.length),Ny ks[j].name:=fun j hj=>(Xr h j hj).name
 have hdd:∀j l (hj:j<ks.length) (hl:l<ks.length),j<l->ks[j].name≠ks[l].name:=fun j l hj hl hlt=>(Xr h l hl).apart j hj hlt
 rw[Fb hi];obtain⟨k,hk⟩:∃z,z=ks[i]:=⟨_,rfl⟩;have bd9:=fun k' (hk':k'.name=k.name) g h0 hg=>a1m ks i hi k' (by rw[hk',hk]) g h0 hg hnm hdd
 rw[←hk] at hc ⊢;unfold Ia;rw[J3,J3,J3,J3,J3,J3,J3];rw[show [oh [vg,k.name]].foldl Nb (ks.take i)=ks.take i++[K0 k.name] from a1o _ _ hc.name];obtain⟨e1,p1⟩:=Yu (fun s:jw=>oh [Ik,s.name,Bq s.type]) (fun k s=>{ k with ins:=k.ins++[s] }) (ks.take i) (fun k'=>k'.name=k.name) k.ins (fun k' x hk'=>hk') (fun k' s _ hs=>a6b _ k' s (hc.ins s hs).1 (hc.ins s hs).2) (K0 k.name) rfl;rw[e1];obtain⟨e2,p2⟩:=Yu (fun s:jw=>oh [Ee,s.name,Bq s.type]) (fun k s=>{ k with ak:=k.ak++[s] }) (ks.take i) (fun k'=>k'.name=k.name) k.ak (fun k' x hk'=>hk') (fun k' s _ hs=>a1j _ k' s (hc.ak s hs).1 (hc.ak s hs).2) _ p1;rw[e2];obtain⟨e3,p3⟩:=Yu (fun x:dh=>oh [Eo,x]) (fun k x=>{ k with iq:=k.iq++[x] }) (ks.take i) (fun k'=>k'.name=k.name) k.iq (fun k' x hk'=>hk') (fun k' x _ hx=>a1k _ k' x (hc.iq x hx)) _ p2;rw[e3];obtain⟨e4,p4⟩:=Yu (fun v:Int=>oh [Ep,qm v]) (fun k v=>{ k with eu:=k.eu++[v] }) (ks.take i) (fun k'=>k'.name=k.name) k.eu (fun k' x hk'=>hk') (fun k' v _ hv=>a1l _ k' v (hc.eu v hv)) _ p3;rw[e4];obtain⟨e5,p5⟩:=Yu (fun g:Int=>oh [Es,Lp ks g]) (fun k g=>{ k with au:=k.au++[g] }) (ks.take i) (fun k'=>k'.name=k.name) k.au (fun k' x hk'=>hk') (fun k' g hk' hg=>bd9 k' hk' g (hc.au g hg).1 (hc.au g hg).2) _ p4;rw[e5];obtain⟨e6,p6⟩:=Yu (fun s:lu=>oh (xu s)) Dw (ks.take i) (fun k'=>k'.name=k.name) k.body (fun k' x hk'=>hk') (fun k' s _ hs=>a1n _ k' s (hc.body s hs)) _ p5;rw[e6];rw[show ∀X,[oh [Pz]].foldl Nb (ks.take i++[X])=ks.take i++[X] from fun X=>axp _ X];rw[Pg (fun k xs=>{ k with ins:=k.ins++xs }) (fun k x=>{ k with ins:=k.ins++[x] }) (fun k=>by simp) (fun k xs x=>by simp)];rw[Pg (fun k xs=>{ k with ak:=k.ak++xs }) (fun k x=>{ k with ak:=k.ak++[x] }) (fun k=>by simp) (fun k xs x=>by simp)];rw[Pg (fun k xs=>{ k with iq:=k.iq++xs }) (fun k x=>{ k with iq:=k.iq++[x] }) (fun k=>by simp) (fun k xs x=>by simp)];rw[Pg (fun k xs=>{ k with eu:=k.eu++xs }) (fun k x=>{ k with eu:=k.eu++[x] }) (fun k=>by simp) (fun k xs x=>by simp)];rw[Pg (fun k xs=>{ k with au:=k.au++xs }) (fun k x=>{ k with au:=k.au++[x] }) (fun k=>by simp) (fun k xs x=>by simp)];rw[Pg (fun k xs=>{ k with body:=k.body++xs }) Dw (fun k=>by simp) (fun k xs x=>by simp[Dw])];simp[K0]
theorem a1p (ls:List dh) (h:∀l,l∈ls->10∉bL l):Hl (Gi ls)=ls:=by
 induction ls with
 | nil=>rfl
 | cons l ls ih =>
  have e:bL (Gi (l::ls))=bL l++10::bL (Gi ls):=by
   rw[Gi,Rn,Rn];rfl
  rw[aug l (Gi ls) _ e (h l (H7 ..)),ih (fun x hx=>h x (G8 _ hx))]
theorem aph {ks:List dw} (h:Py ks=true):Ou (Gi (Ho ks))=ks:=by
 have hno:∀l,l∈Ho ks->10∉bL l:=by
  intro l hl;obtain⟨k,hk,hl⟩:=List.mem_flatMap.1 hl;obtain⟨i,hi,rfl⟩:=List.mem_iff_getElem.1 hk;exact awr (Xr h i hi) (fun j hj=>(Xr h j hj).name) (Nat.le_of_lt hi) l hl
 have key:∀i,i<=ks.length->((ks.take i).flatMap (Ia ks)).foldl Nb []=ks.take i:=by
  intro i
  induction i with
  | zero=>intro _;rfl
  | succ i ih =>
   intro hi
   have e:(ks.take (i+1)).flatMap (Ia ks)=(ks.take i).flatMap (Ia ks)++Ia ks (ks[i]'(by omega)):=by
    rw[Fb (by omega),List.flatMap_append];simp
   rw[e,J3,ih (by omega),axq h i (by omega)]
 unfold Ou;rw[a1p _ hno];have h9:=key ks.length (gq _);rw[Eb] at h9;rw[show Ho ks=ks.flatMap (Ia ks) from rfl,h9]
end Go.Proofs.YtfeejeflmcapoaaGreatDoor
