import Derived.Test.YtfeejeflmcapoaaGreatDoorRG2
import Derived.Test.YtfeejeflmcapoaaGreatDoorMQ2
import Derived.Lib.AtoiAllCases
set_option linter.unusedSimpArgs false
set_option linter.unusedVariables false
namespace Go.Proofs.YtfeejeflmcapoaaGreatDoor
open Go.RowKit
def Du (ps:List dh):Nat:=(ps.map (fun p=>p.size+1)).sum
theorem ak4:Du []=0:=rfl
theorem Nv (p:dh) (ps:List dh):Du (p::ps)=p.size+1+Du ps:=by simp[Du]
theorem ahb (a b:List dh):Du (a++b)=Du a+Du b:=by simp[Du]
theorem Qj:∀(f:List dh) (i:Nat),(fA f i).size<=Du f/\(i<f.length->(fA f i).size+1+Du (f.drop (i+1))<=Du (f.drop i)):=by
 intro f
 induction f with
 | nil=>intro i;exact⟨by unfold fA;simp;decide,fun h=>absurd h (yu _)⟩
 | cons p f ih =>
  intro i
  cases i with
  | zero =>
   have e:fA (p::f) 0=p:=rfl;rw[e];refine⟨by rw[Nv];omega,fun _=>?_⟩;rw[show (p::f).drop (0+1)=f from rfl,show (p::f).drop 0=p::f from rfl,Nv];omega
  | succ i =>
   have e:fA (p::f) (i+1)=fA f i:=rfl;rw[e];obtain⟨h1,h2⟩:=ih i;exact⟨by rw[Nv];omega,fun h=>h2 (by simpa using h)⟩
theorem aiv (f:List dh) (i:Nat):Du (f.drop i)<=Du f:=by
 have h:=ni Du (O8 i f);rw[ahb] at h;omega
theorem ark (ps:List dh):pz Gh (Dk ps)<=Du ps:=by
 induction ps with
 | nil=>simp[Dk,pz,Du]
 | cons p ps ih =>
  have h:=(apb p).1
  have e:pz Gh (Dk (p::ps))=1+Gh (Jf p)+pz Gh (Dk ps):=by
   unfold pz Dk;simp only[Ai,ug,List.sum_cons,zy];omega
  rw[e,Nv];unfold Gh at *;omega
theorem axf (ps:List dh):pz Qp ps=Du ps:=by
 induction ps with
 | nil=>rfl
 | cons p ps ih =>
  have e:pz Qp (p::ps)=1+Qp p+pz Qp ps:=by
   unfold pz;simp only[Ai,ug,List.sum_cons];omega
  rw[e,Nv,ih];unfold Qp;omega
theorem bb4:∀(ps:List dh),((cutAt Bl ps).map (fun l=>1+Du l)).sum<=Du ps+1:=by
 intro ps
 induction ps with
 | nil=>exact gu _
 | cons p ps ih =>
  rw[cutAt];have e:=Uc Bl ps
  split
  ·rename_i h
   simp only[Ai,List.sum_cons,ak4,Nv];omega
  ·rw[e] at ih
   simp only[Ai,List.sum_cons,Nv] at ih ⊢;omega
theorem a5n (ps:List dh):pz (pz Gh) (abj ps)<=Du ps+1:=by
 unfold abj
 split
 ·simp[pz]
 ·refine ku ?_ (bb4 ps)
  unfold pz;rw[zy,List.map_map];generalize cutAt Bl ps=ls
  induction ls with
  | nil=>simp
  | cons l ls ih =>
   have h:=ark l;simp only[Ai,ug,List.sum_cons,Function.comp] at ih ⊢;unfold pz at h;omega
theorem Ah {α:Type} (g:α->Nat) (xs:List α) (x:α):pz g (xs++[x])=pz g xs+1+g x:=by
 unfold pz;simp only[jh,Ig,List.sum_append,ug,Ar,Ai,Fv,List.sum_cons,List.sum_nil];omega
theorem a3l (f:List dh) (p q:Nat) (h:p<=q):Du (wz f p q)+Du (f.drop q)<=Du (f.drop p):=by
 unfold wz;have e:=O8 (q-p) (f.drop p);have h2:=ni Du e;rw[ahb,List.drop_drop,show p+(q-p)=q from by omega] at h2;omega
theorem X6 (f:List dh) (s:dh):je f s<(f.length:Int):=by
 unfold je
 cases h:f.findIdx? (fun x=>x.toList==s.toList) with
 | none=>simp;omega
 | some i =>
  have h9:=List.findIdx?_eq_some_iff_getElem.1 h;obtain⟨h8,_⟩:=h9;simp only;omega
theorem arl (cs:List dw) (eu:dh) (f:List dh) (k:dw) (hne:f≠[]):qy (lineS cs eu f k)<=qy k+Du f:=by
 have hl:1<=f.length:=E5.2 hne;have p0:=(Qj f 0).2 (by omega);have d0:Du (f.drop 0)=Du f:=rfl;have p1:=(Qj f 1).1;have p1':=(Qj f 1).2;have p2':=(Qj f 2).2;have d3:=ark (f.drop 3);have pl:=X6 f ql;simp only[Ba] at p0;simp only[Nat.reduceAdd] at p1' p2';have one:2<=f.length->(fA f 1).size+2<=Du f:=fun h=>by have:=p1' (by omega);omega
 have z:pz Qp []=0/\pz Gh []=0/\pz (pz Gh) []=0:=by decide
 have zn:E0.size=0:=rfl;unfold lineS
 by_cases h1:fA f 0=Ic/\f.length=3
 ·rw[gy h1]
  simp only[qy,Ah,Uh];have:=one (by omega);omega
 rw[bf h1]
 by_cases h2:fA f 0=Dz/\f.length=3
 ·rw[gy h2]
  simp only[qy,Ah,Uh];have:=one (by omega);omega
 rw[bf h2]
 by_cases h3:fA f 0=Ee/\f.length=2
 ·rw[gy h3]
  simp only[qy,Ah,Qp];have:=one (by omega);omega
 rw[bf h3]
 by_cases h4:fA f 0=Ef/\f.length=2
 ·rw[gy h4]
  simp only[qy,jh,ug,Ar];have:=one (by omega);omega
 rw[bf h4]
 by_cases h5:fA f 0=Eh/\f.length=2
 ·rw[gy h5]
  cases af5 cs (fA f 1) with
  | some i=>simp only[qy,jh,ug,Ar];have:=one (by omega);omega
  | none=>simp only;omega
 rw[bf h5]
 by_cases h6:fA f 0=Je/\je f ql=2
 ·rw[gy h6]
  simp only[Dj,qy,Ah,Nr,z.1,z.2.2];have:=p1' (by omega);have:=p2' (by omega);omega
 rw[bf h6]
 by_cases h7:fA f 0=Fp/\je f ql=2
 ·rw[gy h7]
  simp only[Dj,qy,Ah,Nr,z.1,z.2.2,zn];have:=p1' (by omega);have:=p2' (by omega);omega
 rw[bf h7]
 by_cases h8:fA f 0=Qg/\f.length=2
 ·rw[gy h8]
  simp only[Dj,qy,Ah,Nr,z.1,z.2.1,z.2.2];have:=one (by omega);omega
 rw[bf h8]
 by_cases h9:eu=Fg
 ·rw[gy h9]
  simp only[Dj,qy,Ah,Nr,z.1,z.2.1,z.2.2,zn];omega
 rw[bf h9]
 by_cases h10:eu=Iz
 ·rw[gy h10]
  simp only[Dj,qy,Ah,Nr,z.1,z.2.1,z.2.2,zn];omega
 rw[bf h10]
 by_cases h11:fA f 0=zx/\2<je f ql
 ·rw[gy h11]
  obtain⟨c,hc⟩:=Ht (show 0<=je f ql by omega);rw[hc] at h11 pl ⊢;simp only[Ed];have a1:=a5n (f.drop (c+1));have a2:=a3l f 2 c (by omega);have a3:=(Qj f c).2 (by omega);have a4:=p1' (by omega);have a5:=axf (wz f 2 c);simp only[Dj,qy,Ah,Nr,z.2.1,zn,a5];omega
 rw[bf h11];omega
theorem bb5 (cs:List dw) (g:dw->dw) (n:Nat) (h:∀k,qy (g k)<=qy k+n):pz qy (upL cs g)<=pz qy cs+n:=by
 rcases List.eq_nil_or_concat cs with rfl|⟨a,k,rfl⟩
 ·rw[ak2];omega
 ·rw[List.concat_eq_append,Aa,Ah,Ah]
  have:=h k;omega
theorem amh (cs:List dw) (eu:dh) (f:List dh) (k:dw) (h0:fA f 0=vw) (h1:eu≠Fg) (h2:eu≠Iz):lineS cs eu f k=k:=by
 unfold lineS;rw[h0,bf (fun h9=>absurd h9.1 (by decide)),bf (fun h9=>absurd h9.1 (by decide)),bf (fun h9=>absurd h9.1 (by decide)),bf (fun h9=>absurd h9.1 (by decide)),bf (fun h9=>absurd h9.1 (by decide)),bf (fun h9=>absurd h9.1 (by decide)),bf (fun h9=>absurd h9.1 (by decide)),bf (fun h9=>absurd h9.1 (by decide)),bf h1,bf h2,bf (fun h9=>absurd h9.1 (by decide))]
theorem aj2 (eu:dh) (h:fA (wordsOf 32 eu) 0=vw):eu≠Fg/\eu≠Iz:=⟨fun e=>by rw[e] at h;exact absurd h (by decide),fun e=>by rw[e] at h;exact absurd h (by decide)⟩
theorem a5o (cs:List dw) (eu:dh):pz qy (stepS cs eu)<=pz qy cs+eu.size+1:=by
 have hw:=(Au 32 eu).2;have hne:=Ei 32 eu;have hps:Du (wordsOf 32 eu)=eu.size+1:=hw;have hcl:=aj2 eu;unfold stepS Iq;generalize wordsOf 32 eu=f at *
 by_cases hc:fA f 0=vw/\f.length=2
 ·rw[gy hc,Aa,amh _ _ _ _ hc.1 (hcl hc.1).1 (hcl hc.1).2,Ah]
  have p0:=(Qj f 0).2 (by omega);have p1:=(Qj f 1).2 (by omega);have d0:Du (f.drop 0)=Du f:=rfl;have e:qy (K0 (fA f 1))=(fA f 1).size:=rfl;have z0:(fA f 0).size=5:=by rw[hc.1];rfl
  simp only[Ba,Nat.reduceAdd] at p0 p1;omega
 ·rw[bf hc]
  have h9:=bb5 cs (lineS cs eu f) (Du f) (fun k=>arl cs eu f k hne);omega
theorem a9o (ls:List dh):∀cs,pz qy (ls.foldl stepS cs)<=pz qy cs+Du ls:=by
 induction ls with
 | nil=>intro cs;exact Nat.le_add_right _ _
 | cons l ls ih =>
  intro cs;rw[List.foldl_cons,Nv];have h1:=ih (stepS cs l);have h2:=a5o cs l;omega
def Om (p:dh):Int:=match Lib.atoiAll (bL p) with|.ok v=>v|.range=>Lib.atoiSat (bL p)|_=>0
theorem ad9 (p:dh):I64 (Om p):=by
 unfold Om I64
 cases h:Lib.atoiAll (bL p) with
 | ok v=>have h9:=Lib.atoiAll_bounds h;simp only;omega
 | range=>have h9:=Lib.atoiSat_bounds (bL p);simp only;omega
 | _=>simp only;omega
theorem auc (b:UInt8) (hb:Vx b=true):∀(l:List UInt8) (acc u:Nat),Lib.parseUint10 acc l=.ok u->u*10+(b.toNat-48)<18446744073709551616->u<1844674407370955162->Lib.parseUint10 acc (l++[b])=.ok (u*10+(b.toNat-48)):=by
 have yx:=xw hb;intro l
 induction l with
 | nil =>
  intro acc u h h1 h2;simp only[Lib.parseUint10] at h;injection h with h;subst h;rw[Gm,Lib.parseUint10,gy yx,bf (by omega),bf (by omega),Lib.parseUint10]
 | cons c l ih =>
  intro acc u h h1 h2;rw[Lib.parseUint10] at h;rw[Ew,Lib.parseUint10]
  by_cases c1:48<=c.toNat/\c.toNat<=57
  ·rw[gy c1] at h ⊢
   by_cases c2:1844674407370955162<=acc
   ·rw[gy c2] at h;cases h
   rw[bf c2] at h ⊢
   by_cases c3:18446744073709551616<=acc*10+(c.toNat-48)
   ·rw[gy c3] at h;cases h
   rw[bf c3] at h ⊢;exact ih _ _ h h1 h2
  ·rw[bf c1] at h;cases h
theorem ami:∀(u:Nat),u<=4294967296->Lib.parseUint10 0 (Lib.decDigits u)=.ok u:=by
 intro u
 induction u using Nat.strongRecOn with
 | ind u ih =>
  intro h;rw[Lib.decDigits]
  have hd:∀d,d<10->Vx (UInt8.ofNat (48+d))=true:=fun d hd=>by
   unfold Vx;rw[Yp d hd];exact jf ⟨by omega,by omega⟩
  by_cases c:u<10
  ·rw[dif_pos c,Lib.parseUint10,Yp u c,gy ⟨by omega,by omega⟩,bf (by omega),bf (by omega),Lib.parseUint10]
   congr 1;omega
  ·rw[dif_neg c,auc _ (hd _ (by omega)) _ _ (u / 10) (ih (u / 10) (by omega) (by omega)) (by rw[Yp _ (by omega)];omega) (by omega),Yp _ (by omega)]
   congr 1;omega
theorem ab5 (v:Int) (h:Oe v):Om (qo v)=v:=by
 unfold Oe at h;unfold Om;rw[ad5];unfold Lib.itoa
 by_cases c:v<0
 ·rw[gy c,Lib.atoiAll_minus]
  obtain⟨b,l,h1,h2,_⟩:=Vy v.natAbs
  have h3:Lib.parseMag (Lib.decDigits v.natAbs)=.ok v.natAbs:=by
   unfold Lib.parseMag;rw[bf (by rw[h1];simp),ami _ (by omega)]
  rw[h3];simp only[Lib.signed];rw[bf (by omega)];simp only;omega
 ·rw[bf c]
  obtain⟨b,l,h1,h2,_⟩:=Vy v.toNat
  have h3:Lib.parseMag (Lib.decDigits v.toNat)=.ok v.toNat:=by
   unfold Lib.parseMag;rw[bf (by rw[h1];simp),ami _ (by omega)]
  have h4:=xw h2;rw[h1,Lib.atoiAll_plain b l (by omega) (by omega),←h1,h3];simp only[Lib.signless];rw[bf (by omega)];simp only;omega
def Vz (p:dh):Int:=match (List.range 17).find? (fun i=>decide (Dh i=p)) with|some i=>(i:Int)+4|none=>0
def ab6 (p:dh):Bool:=match bL p with|[]=>false|b::_=>Vx b
def Hf (p:dh):l9 :=
 if (bL p).head?=some 46 then ⟨3,0,J7 p⟩ else if (bL p).head?=some 64 then ⟨25,Om (J7 p),E0⟩ else if p=N7 then ⟨2,1,E0⟩ else if p=Jw then ⟨2,0,E0⟩ else if ab6 p=true then ⟨1,Om p,E0⟩ else ⟨Vz p,0,E0⟩
def A8 (ps:List dh):List l9:=ps.map Hf
def Un {α:Type} (ls:List (List α)):List (List α):=match ls.getLast? with|some []=>ls.dropLast|_=>ls
def Pq (ps:List dh):List (List l9):=(Un (cutAt Bl ps)).map A8
def Gz (t:dh):List dh:=(Un (cutAt 10 (bL t))).map Qo
theorem aj3 {α:Type} (a:List α) (l:List (List α)) (h:l≠[]):Un (a::l)=a::Un l:=by
 obtain⟨b,x,rfl⟩:∃b x,l=b++[x]:=by
  rcases List.eq_nil_or_concat l with h9|⟨b,x,h9⟩
  ·exact absurd h9 h
  ·exact⟨b,x,by rw[h9,List.concat_eq_append]⟩
 unfold Un;rw[show a::(b++[x])=(a::b)++[x] from rfl,List.getLast?_concat,List.getLast?_concat,List.dropLast_concat,List.dropLast_concat]
 cases x<;>rfl
theorem apc {α:Type} (a:List α) (h:a≠[]):Un [a]=[a]:=by
 cases a with
 | nil=>exact absurd rfl h
 | cons x a=>rfl
theorem apd {α:Type} [DecidableEq α] (c:α) (a l:List α) (h:c∉a):Un (cutAt c (a++c::l))=a::Un (cutAt c l):=by
 rw[Yo c a l h,aj3 _ _ (abt c l)]
theorem amj:Pq []=[]:=rfl
theorem aud (ps:List dh) (hn:ps≠[]) (h:Bl∉ps):Pq ps=[A8 ps]:=by
 unfold Pq;rw[Ul _ _ h,apc _ hn];rfl
theorem axg (a l:List dh) (h:Bl∉a):Pq (a++Bl::l)=A8 a::Pq l:=by
 unfold Pq;rw[apd _ _ _ h];rfl
theorem aue (a l:dh) (t:dh) (ht:bL t=bL a++10::bL l) (h:10∉bL a):Gz t=a::Gz l:=by
 unfold Gz;rw[ht,apd _ _ _ h];show Qo (bL a)::_=_;rw[Uy]
def ae9 (ns:List dh) (x:dh):Option Nat:=(ns.reverse.findIdx? (fun y=>decide (y=x))).map (fun j=>ns.length-1-j)
theorem aj6 (ns:List dh) (nm x:dh):ae9 (ns++[nm]) x=if nm=x then some ns.length else ae9 ns x:=by
 unfold ae9;rw[List.reverse_append,List.reverse_cons,List.reverse_nil,Gm,List.singleton_append,List.findIdx?_cons]
 by_cases h:nm=x
 ·rw[gy h,jf h]
  simp
 ·rw[bf h,iy h]
  simp only[Bool.false_eq_true,if_false,Option.map_map];congr 1;funext j;simp only[Function.comp,jh,ug,Ar];omega
theorem a1e (ns:List dh) (x:dh) (i:Nat) (h:ae9 ns x=some i):i<ns.length:=by
 rcases List.eq_nil_or_concat ns with h9|⟨b,y,h9⟩
 ·subst h9;cases h
 ·unfold ae9 at h
  rw[Option.map_eq_some_iff] at h;obtain⟨j,_,rfl⟩:=h;have:1<=ns.length:=by rw[h9];simp
  omega
theorem a1f:∀(n:Nat) (ns:List dh),ns.length=n->∀(g:Nat) (hg:g<ns.length),(∀j (hj:j<ns.length),g<j->ns[j]≠ns[g])->ae9 ns ns[g]=some g:=by
 intro n
 induction n with
 | zero=>intro ns hn g hg;omega
 | succ n ih =>
  intro ns hn g hg h
  obtain⟨b,y,rfl⟩:∃b y,ns=b++[y]:=by
   rcases List.eq_nil_or_concat ns with h9|⟨b,x,h9⟩
   ·rw[h9] at hn;cases hn
   ·exact⟨b,x,by rw[h9,List.concat_eq_append]⟩
  rw[jh,N9] at hg hn;rw[aj6]
  by_cases c:g=b.length
  ·subst c
   rw[gy (by simp)]
  ·have hgb:g<b.length:=by omega
   have e:(b++[y])[g]'(by simp;omega)=b[g]:=Qx hgb;have hy:=h b.length (by simp) hgb;rw[e] at hy ⊢;rw[bf (by simpa using hy)];refine ih b (by omega) g hgb (fun j hj hlt=>?_);have h9:=h j (by simp;omega) hlt;rw[e,Qx hj] at h9;exact h9
def Nw (cs:List dw) (x:dh):Option Nat:=ae9 (cs.map (·.name)) x
def Lj (f:List dh):jw:=⟨fA f 1,if fA f 2=ae3 then 2 else 1⟩
def adb (f:List dh):lu:=⟨3,E0,Om (fA f 1),wz f 2 (je f ql).toNat,[],Pq (f.drop (je f ql+1).toNat)⟩
def Ny (f:List dh):lu :=
 if fA f 0=Je then ⟨1,fA f 1,0,[],A8 (f.drop 3),[]⟩
 else if fA f 0=Fp then ⟨2,E0,Om (fA f 1),[],A8 (f.drop 3),[]⟩
 else if fA f 0=zx then adb f
 else if fA f 0=Qg then ⟨4,fA f 1,0,[],[],[]⟩
 else if fA f 0=Fg then ⟨5,E0,0,[],[],[]⟩
 else if fA f 0=Iz then ⟨6,E0,0,[],[],[]⟩
 else ⟨0,E0,0,[],[],[]⟩
def Jg (cs:List dw) (f:List dh) (k:dw):dw :=
 if fA f 0=Ic then { k with ins:=k.ins++[Lj f] }
 else if fA f 0=Dz then { k with au:=k.au++[Lj f] }
 else if fA f 0=Ee then { k with iw:=k.iw++[fA f 1] }
 else if fA f 0=Ef then { k with gq:=k.gq++[Om (fA f 1)] }
 else if fA f 0=Eh then { k with ay:=k.ay++[(((Nw cs (fA f 1)).getD 0:Nat):Int)] }
 else if fA f 0=Po then k
 else Dj k (Ny f)
def Va (cs:List dw) (f:List dh):List dw:=if fA f 0=vw then cs++[K0 (fA f 1)] else upL cs (Jg cs f)
def Me (cs:List dw) (eu:dh):List dw:=Va cs (wordsOf 32 eu)
def Oo (t:dh):List dw:=(Gz t).foldl Me []
theorem agk (p:dh) (b:UInt8) (l:List UInt8) (h:bL p=b::l):ab6 p=Vx b:=by
 unfold ab6;rw[h]
theorem auf (t:l9) (h:Si t):Hf (partT t)=t:=by
 obtain⟨op,val,name⟩:=t;unfold Hf;rcases h.op with h1|h1
 case inr =>
  simp only at h1;subst h1;have hn:=h.X5 (show ¬(25:Int)=3 by decide);have hc:=h.cell rfl;simp only at hn hc;have e:partT ⟨25,val,name⟩=Wat++qo val:=rfl;have eb:bL (Wat++qo val)=64::bL (qo val):=by rw[Q9];rfl
  rw[e,eb,bf (show ¬(64::bL (qo val)).head?=some 46 from fun h9=>absurd (Gv h9) (by decide)),gy (show (64::bL (qo val)).head?=some 64 from rfl),show J7 (Wat++qo val)=qo val from by unfold J7;rw[eb];exact Uy _,ab5 _ (by unfold Oe;omega),hn]
 by_cases c1:op=1
 ·subst c1
  have hn:=h.X5 (show ¬(1:Int)=3 by decide);have hc:=h.num rfl;simp only at hn hc;have e:partT ⟨1,val,name⟩=qo val:=rfl;obtain⟨b,l,g1,g2,_⟩:=Vy val.toNat;have eb:bL (qo val)=b::l:=by rw[ad5];unfold Lib.itoa;rw[bf (by omega),g1]
  have n1:¬qo val=N7:=fun h9=>by
   have h8:=ni bL h9;rw[eb] at h8;rw[(List.cons.inj h8).1] at g2;exact absurd g2 (by decide)
  have n2:¬qo val=Jw:=fun h9=>by
   have h8:=ni bL h9;rw[eb] at h8;rw[(List.cons.inj h8).1] at g2;exact absurd g2 (by decide)
  have n3:¬(bL (qo val)).head?=some 46:=by
   rw[eb];intro h9;have h8:b=46:=by simpa using h9
   rw[h8] at g2;exact absurd g2 (by decide)
  have n4:¬(bL (qo val)).head?=some 64:=by
   rw[eb];intro h9;have h8:b=64:=by simpa using h9
   rw[h8] at g2;exact absurd g2 (by decide)
  rw[e,bf n3,bf n4,bf n1,bf n2,agk _ _ _ eb,gy g2,ab5 _ (by unfold Oe;omega),hn]
 by_cases c2:op=2
 ·subst c2
  have hn:=h.X5 (show ¬(2:Int)=3 by decide);simp only at hn;rcases h.tru rfl with hv|hv
  ·simp only at hv
   subst hv hn;have e:partT ⟨2,0,E0⟩=Jw:=rfl;rw[e,bf (by decide),bf (by decide),bf (by decide),gy rfl]
  ·simp only at hv
   subst hv hn;have e:partT ⟨2,1,E0⟩=N7:=rfl;rw[e,bf (by decide),bf (by decide),gy rfl]
 by_cases c3:op=3
 ·subst c3
  have hv:=h.am6 (Or.inl rfl);simp only at hv;subst hv;have e:partT ⟨3,0,name⟩=Zf++name:=rfl;have eb:bL (Zf++name)=46::bL name:=by rw[Q9];rfl
  rw[e,eb,gy (show (46::bL name).head?=some 46 from rfl),show J7 (Zf++name)=name from by unfold J7;rw[eb];exact Uy _]
 ·have hr:4<=op/\op<=20:=by simp only at h1;omega
  obtain⟨i,hi,ho,hp⟩:=ak1 ⟨op,val,name⟩ hr;have hv:=h.am6 (Or.inr hr);have hn:=h.X5 c3;simp only at ho hv hn;have hh:=ao9 ⟨i,hi⟩;have hs:=ab4 ⟨i,hi⟩;simp only at hh hs;rw[hp]
  cases hb:bL (Dh i) with
  | nil=>rw[hb] at hh;cases hh
  | cons b l =>
   rw[hb] at hh;simp only[a1b,uy,Bool.not_eq_true',decide_eq_true_eq] at hh;rw[bf (show ¬(b::l).head?=some 46 from fun h9=>hh.2.1 (Gv h9)),bf (show ¬(b::l).head?=some 64 from fun h9=>hh.2.2 (Gv h9)),bf hs.2.2.1,bf hs.2.2.2,agk _ _ _ hb,hh.1,bf (by simp)];unfold Vz;rw[aj0 ⟨i,hi⟩];simp only;rw[←ho,hv,hn]
theorem ahc (c:List l9) (h:∀t,t∈c->Si t):A8 (tu c)=c:=by
 unfold A8 tu;rw[List.map_map];conv=>rhs;rw[←List.map_id c]
 exact List.map_congr_left (fun t ht=>auf t (h t ht))
theorem a5p (Af:List (List l9)) (h:∀c,c∈Af->c≠[]/\∀t,t∈c->Si t):Pq (vg Af Af.length)=Af:=by
 unfold Pq;rcases List.eq_nil_or_concat Af with e|⟨b,x,e⟩
 ·subst e
  rfl
 ·rw[List.concat_eq_append] at e
  subst e;have hl:1<=(b++[x]).length:=by simp
  have h9:=apa (b++[x]) (fun c hc=>(h c hc).2) _ (gu _) [] (by simp) hl;rw[Aq,Aq] at h9;have e1:(b++[x]).length-1=b.length:=by simp
  have e2:(b++[x]).getD b.length []=x:=by rw[yw,Us (gu _),Nat.sub_self];rfl
  rw[e1,e2,List.take_left' rfl] at h9;rw[h9];have hx:=h x (by simp);have hne:tu x≠[]:=fun e9=>hx.1 (by simpa[tu] using e9)
  have e3:Un (b.map tu++[tu x])=b.map tu++[tu x]:=by
   unfold Un;rw[List.getLast?_concat]
   cases hc:tu x with
   | nil=>exact absurd hc hne
   | cons y l=>rfl
  rw[e3,Ig,List.map_map,Ai,Fv,ahc _ hx.2];congr 1;conv=>rhs;rw[←List.map_id b]
  exact List.map_congr_left (fun c hc=>ahc c (h c (List.mem_append_left _ hc)).2)
theorem a9p (s:lu) (h:aez s):Ny (x9 s)=s/\fA (x9 s) 0∈[Je,Fp,zx,Qg,Fg,Iz]:=by
 obtain⟨kd,nm,at_,au,code,args⟩:=s;have hk:=h.kind;simp only at hk
 by_cases c1:kd=1
 ·subst c1
  have e:x9 ⟨1,nm,at_,au,code,args⟩=[Je,nm]++ql::tu code:=rfl;have h1:=h.ak3 (by simp) (by simp);have h2:=h.agj (by simp);simp only at h1 h2;obtain⟨h2,h3⟩:=h2;subst h1 h2 h3;rw[e];have f0:fA ([Je,nm]++ql::tu code) 0=Je:=rfl;have f1:fA ([Je,nm]++ql::tu code) 1=nm:=rfl;have f3:([Je,nm]++ql::tu code).drop 3=tu code:=rfl;refine⟨?_,by rw[f0];simp⟩;unfold Ny;rw[f0,f1,f3,gy rfl,ahc _ h.code]
 by_cases c2:kd=2
 ·subst c2
  have e:x9 ⟨2,nm,at_,au,code,args⟩=[Fp,qo at_]++ql::tu code:=rfl;have hn:=h.X5 (by simp) (by simp);have h1:=h.at_ (Or.inl rfl);have h2:=h.agj (by simp);simp only at hn h1 h2;obtain⟨h2,h3⟩:=h2;subst hn h2 h3;rw[e];have f0:fA ([Fp,qo at_]++ql::tu code) 0=Fp:=rfl;have f1:fA ([Fp,qo at_]++ql::tu code) 1=qo at_:=rfl;have f3:([Fp,qo at_]++ql::tu code).drop 3=tu code:=rfl;refine⟨?_,by rw[f0];simp⟩;unfold Ny;rw[f0,f1,f3,bf (by decide),gy rfl,ahc _ h.code,ab5 _ (by unfold Oe;omega)]
 by_cases c3:kd=3
 ·subst c3
  have e:x9 ⟨3,nm,at_,au,code,args⟩=(zx::qo at_::au)++ql::vg args args.length:=by
   show [zx,qo at_]++au++[ql]++vg args args.length=_;simp
  have hn:=h.X5 (by simp) (by simp);have h1:=h.at_ (Or.inr rfl);have h2:=h.ad7 (by simp) (by simp);have ho:=h.au rfl;simp only at hn h1 h2 ho;subst hn h2
  have hpl:=acv (zx::qo at_::au) (vg args args.length) (fun x hx=>by
   simp only[qj] at hx;rcases hx with rfl|rfl|hx
   ·decide
   ·exact(aau _).col
   ·exact(ho.2 x hx).col)
  have hlc:(zx::qo at_::au).length=au.length+2:=by simp
  rw[hlc] at hpl;have f0:fA ((zx::qo at_::au)++ql::vg args args.length) 0=zx:=rfl;have f1:fA ((zx::qo at_::au)++ql::vg args args.length) 1=qo at_:=rfl;rw[e];refine⟨?_,by rw[f0];simp⟩;unfold Ny;rw[f0,bf (by decide),bf (by decide),gy rfl];unfold adb;rw[hpl,f1,Ed,ab5 _ (by unfold Oe;omega),show (((au.length+2:Nat):Int)+1).toNat=au.length+2+1 from by omega]
  have e4:wz ((zx::qo at_::au)++ql::vg args args.length) 2 (au.length+2)=au:=by
   unfold wz;simp
  have e5:((zx::qo at_::au)++ql::vg args args.length).drop (au.length+2+1)=vg args args.length:=by
   rw[show (zx::qo at_::au)++ql::vg args args.length=(zx::qo at_::(au++[ql]))++vg args args.length from by simp];exact List.drop_left' (by simp)
  rw[e4,e5,a5p _ h.args]
 by_cases c4:kd=4
 ·subst c4
  have e:x9 ⟨4,nm,at_,au,code,args⟩=[Qg,nm]:=rfl;have h1:=h.ak3 (by simp) (by simp);have h2:=h.agj (by simp);have h4:=h.ad7 (by simp) (by simp);simp only at h1 h2 h4;obtain⟨h2,h3⟩:=h2;subst h1 h2 h3 h4;rw[e];have f0:fA [Qg,nm] 0=Qg:=rfl;have f1:fA [Qg,nm] 1=nm:=rfl;refine⟨?_,by rw[f0];simp⟩;unfold Ny;rw[f0,f1,bf (by decide),bf (by decide),bf (by decide),gy rfl]
 have hn:=h.X5 c1 c4;have h1:=h.ak3 c2 c3;have h2:=h.agj c3;have h4:=h.ad7 c1 c2;simp only at hn h1 h2 h4;obtain⟨h2,h3⟩:=h2;subst hn h1 h2 h3 h4
 by_cases c5:kd=5
 ·subst c5
  have e:x9 ⟨5,E0,0,[],[],[]⟩=[Fg]:=rfl;have f0:fA [Fg] 0=Fg:=rfl;rw[e];refine⟨?_,by rw[f0];simp⟩;unfold Ny;rw[f0,bf (by decide),bf (by decide),bf (by decide),bf (by decide),gy rfl]
 ·obtain rfl:kd=6:=by omega
  have e:x9 ⟨6,E0,0,[],[],[]⟩=[Iz]:=rfl;have f0:fA [Iz] 0=Iz:=rfl;rw[e];refine⟨?_,by rw[f0];simp⟩;unfold Ny;rw[f0,bf (by decide),bf (by decide),bf (by decide),bf (by decide),bf (by decide),gy rfl]
theorem aaf (a:List dw) (k:dw) (ps:List dh) (hne:ps≠[]) (hno:∀p,p∈ps->32∉bL p) (hc:fA ps 0≠vw):Me (a++[k]) (oq ps)=a++[Jg (a++[k]) ps k]:=by
 unfold Me Va;rw[abv ps hne hno,bf hc,Aa]
theorem Yq {α:Type} (eu:α->dh) (g:dw->α->dw) (a:List dw) (P:dw->Prop) (xs:List α) (hP:∀k x,P k->P (g k x)) (h:∀k x,P k->x∈xs->Me (a++[k]) (eu x)=a++[g k x]):∀k,P k->(xs.map eu).foldl Me (a++[k])=a++[xs.foldl g k]/\P (xs.foldl g k):=by
 induction xs with
 | nil=>intro k hk;exact⟨rfl,hk⟩
 | cons x xs ih =>
  intro k hk;rw[Ai,List.foldl_cons,h k x hk (Hr ..)];exact ih (fun k y hk hy=>h k y hk (Gu _ hy)) _ (hP k x hk)
theorem axh (t:Int) (h:t=1\/t=2):(if Bf t=ae3 then (2:Int) else 1)=t:=by
 rcases h with rfl|rfl<;>decide
theorem a5q (a:List dw) (k:dw) (s:jw) (h:Nu s.name) (ht:s.type=1\/s.type=2):Me (a++[k]) (oq [Ic,s.name,Bf s.type])=a++[{ k with ins:=k.ins++[s] }]:=by
 rw[aaf a k _ (by simp) (ajr (by decide) h.no.1 (adv _).1) (by exact(by decide:¬Ic=vw))];have e:=axh s.type ht;unfold Jg Lj;have f0:fA [Ic,s.name,Bf s.type] 0=Ic:=rfl;have f1:fA [Ic,s.name,Bf s.type] 1=s.name:=rfl;have f2:fA [Ic,s.name,Bf s.type] 2=Bf s.type:=rfl;rw[f0,f1,f2,gy rfl,e]
theorem a1g (a:List dw) (k:dw) (s:jw) (h:Nu s.name) (ht:s.type=1\/s.type=2):Me (a++[k]) (oq [Dz,s.name,Bf s.type])=a++[{ k with au:=k.au++[s] }]:=by
 rw[aaf a k _ (by simp) (ajr (by decide) h.no.1 (adv _).1) (by exact(by decide:¬Dz=vw))];have e:=axh s.type ht;unfold Jg Lj;have f0:fA [Dz,s.name,Bf s.type] 0=Dz:=rfl;have f1:fA [Dz,s.name,Bf s.type] 1=s.name:=rfl;have f2:fA [Dz,s.name,Bf s.type] 2=Bf s.type:=rfl;rw[f0,f1,f2,bf (by decide),gy rfl,e]
theorem a1h (a:List dw) (k:dw) (x:dh) (h:Nu x):Me (a++[k]) (oq [Ee,x])=a++[{ k with iw:=k.iw++[x] }]:=by
 rw[aaf a k _ (by simp) (aat (by decide) h.no.1) (by exact(by decide:¬Ee=vw))];unfold Jg;have f0:fA [Ee,x] 0=Ee:=rfl;have f1:fA [Ee,x] 1=x:=rfl;rw[f0,f1,bf (by decide),bf (by decide),gy rfl]
theorem a1i (a:List dw) (k:dw) (v:Int) (h:Oe v):Me (a++[k]) (oq [Ef,qo v])=a++[{ k with gq:=k.gq++[v] }]:=by
 rw[aaf a k _ (by simp) (aat (by decide) (aau v).no.1) (by exact(by decide:¬Ef=vw))];unfold Jg;have f0:fA [Ef,qo v] 0=Ef:=rfl;have f1:fA [Ef,qo v] 1=qo v:=rfl;rw[f0,f1,bf (by decide),bf (by decide),bf (by decide),gy rfl,ab5 v h]
theorem a1j (ks:List dw) (i:Nat) (hi:i<ks.length) (k:dw) (hk:k.name=ks[i].name) (g:Int) (h0:0<=g) (hg:g<(i:Int)) (hn:∀j (hj:j<ks.length),Nu ks[j].name) (hd:∀j l (hj:j<ks.length) (hl:l<ks.length),j<l->ks[j].name≠ks[l].name):Me (ks.take i++[k]) (oq [Eh,Lm ks g])=ks.take i++[{ k with ay:=k.ay++[g] }]:=by
 rw[aku ks g h0 (by omega),aaf _ k _ (by simp) (aat (by decide) (hn g.toNat (by omega)).no.1) (by exact(by decide:¬Eh=vw))];unfold Jg;have f0:∀x,fA [Eh,x] 0=Eh:=fun _=>rfl
 have f1:∀x,fA [Eh,x] 1=x:=fun _=>rfl
 rw[f0,f1,bf (by decide),bf (by decide),bf (by decide),bf (by decide),gy rfl]
 have e:(ks.take i++[k]).map (·.name)=(ks.map (·.name)).take (i+1):=by
  rw[Ig,List.map_take,Eu (by simpa using hi)];simp[hk]
 have hl:((ks.map (·.name)).take (i+1)).length=i+1:=by simp;omega
 have hat:∀j (hj:j<i+1),((ks.map (·.name)).take (i+1))[j]'(by rw[hl];exact hj)=(ks[j]'(by omega)).name:=fun j hj=>by simp
 have hu:Nw (ks.take i++[k]) (ks[g.toNat]'(by omega)).name=some g.toNat:=by
  unfold Nw;rw[e,←hat g.toNat (by omega)];refine a1f _ _ rfl g.toNat (by rw[hl];omega) (fun j hj hlt=>?_);have hj':j<i+1:=by rw[hl] at hj;exact hj
  rw[hat j hj',hat g.toNat (by omega)];exact fun e9=>hd g.toNat j (by omega) (by omega) hlt e9.symm
 rw[hu];simp only[Kw];rw[show ((g.toNat:Nat):Int)=g from by omega]
theorem a1k (a:List dw) (k:dw) (s:lu) (h:aez s):Me (a++[k]) (oq (x9 s))=a++[Dj k s]:=by
 have hn:=adw s h;obtain⟨h1,h2⟩:=a9p s h;have hno:∀x,x∈[Je,Fp,zx,Qg,Fg,Iz]->(x≠vw/\x≠Ic/\x≠Dz/\x≠Ee)/\x≠Ef/\x≠Eh/\x≠Po:=by decide
 obtain⟨⟨n0,n1,n2,n3⟩,n4,n5,n6⟩:=hno _ h2;rw[aaf a k _ hn.1 (fun p hp=>(hn.2 p hp).1) n0];unfold Jg;rw[bf n1,bf n2,bf n3,bf n4,bf n5,bf n6,h1]
theorem a1l (a:List dw) (nm:dh) (h:Nu nm):Me a (oq [vw,nm])=a++[K0 nm]:=by
 have hw:=abv [vw,nm] (by simp) (aat (by decide) h.no.1);unfold Me Va;rw[hw];have f0:fA [vw,nm] 0=vw:=rfl;have f1:fA [vw,nm] 1=nm:=rfl;rw[f0,f1,gy rfl]
theorem axi (a:List dw) (k:dw):Me (a++[k]) (oq [Po])=a++[k]:=by
 rw[aaf a k _ (by simp) (fun p hp=>by rw[yt] at hp;rw[hp];decide) (by exact(by decide:¬Po=vw))];unfold Jg;have f0:fA [Po] 0=Po:=rfl;rw[f0,bf (by decide),bf (by decide),bf (by decide),bf (by decide),bf (by decide),gy rfl]
theorem axj {ks:List dw} (h:Pn ks=true) (i:Nat) (hi:i<ks.length):(Hu ks ks[i]).foldl Me (ks.take i)=ks.take (i+1):=by
 have hc:=Xn h i hi;have hnm:∀j (hj:j<ks.length),Nu ks[j].name:=fun j hj=>(Xn h j hj).name
 have hdd:∀j l (hj:j<ks.length) (hl:l<ks.length),j<l->ks[j].name≠ks[l].name:=fun j l hj hl hlt=>(Xn h l hl).apart j hj hlt
 rw[Eu hi];obtain⟨k,hk⟩:=o8 (ks[i]);have bdo:=fun k' (hk':k'.name=k.name) g h0 hg=>a1j ks i hi k' (by rw[hk',hk]) g h0 hg hnm hdd
 rw[←hk] at hc ⊢;unfold Hu;rw[Ju,Ju,Ju,Ju,Ju,Ju,Ju];rw[show [oq [vw,k.name]].foldl Me (ks.take i)=ks.take i++[K0 k.name] from a1l _ _ hc.name];obtain⟨e1,p1⟩:=Yq (fun s:jw=>oq [Ic,s.name,Bf s.type]) (fun k s=>{ k with ins:=k.ins++[s] }) (ks.take i) (fun k'=>k'.name=k.name) k.ins (fun k' x hk'=>hk') (fun k' s _ hs=>a5q _ k' s (hc.ins s hs).1 (hc.ins s hs).2) (K0 k.name) rfl;rw[e1];obtain⟨e2,p2⟩:=Yq (fun s:jw=>oq [Dz,s.name,Bf s.type]) (fun k s=>{ k with au:=k.au++[s] }) (ks.take i) (fun k'=>k'.name=k.name) k.au (fun k' x hk'=>hk') (fun k' s _ hs=>a1g _ k' s (hc.au s hs).1 (hc.au s hs).2) _ p1;rw[e2];obtain⟨e3,p3⟩:=Yq (fun x:dh=>oq [Ee,x]) (fun k x=>{ k with iw:=k.iw++[x] }) (ks.take i) (fun k'=>k'.name=k.name) k.iw (fun k' x hk'=>hk') (fun k' x _ hx=>a1h _ k' x (hc.iw x hx)) _ p2;rw[e3];obtain⟨e4,p4⟩:=Yq (fun v:Int=>oq [Ef,qo v]) (fun k v=>{ k with gq:=k.gq++[v] }) (ks.take i) (fun k'=>k'.name=k.name) k.gq (fun k' x hk'=>hk') (fun k' v _ hv=>a1i _ k' v (hc.gq v hv)) _ p3;rw[e4];obtain⟨e5,p5⟩:=Yq (fun g:Int=>oq [Eh,Lm ks g]) (fun k g=>{ k with ay:=k.ay++[g] }) (ks.take i) (fun k'=>k'.name=k.name) k.ay (fun k' x hk'=>hk') (fun k' g hk' hg=>bdo k' hk' g (hc.ay g hg).1 (hc.ay g hg).2) _ p4;rw[e5];obtain⟨e6,p6⟩:=Yq (fun s:lu=>oq (x9 s)) Dj (ks.take i) (fun k'=>k'.name=k.name) k.body (fun k' x hk'=>hk') (fun k' s _ hs=>a1k _ k' s (hc.body s hs)) _ p5;rw[e6];rw[show ∀X,[oq [Po]].foldl Me (ks.take i++[X])=ks.take i++[X] from fun X=>axi _ X];rw[O6 (fun k xs=>{ k with ins:=k.ins++xs }) (fun k x=>{ k with ins:=k.ins++[x] }) (fun k=>by simp) (fun k xs x=>by simp)];rw[O6 (fun k xs=>{ k with au:=k.au++xs }) (fun k x=>{ k with au:=k.au++[x] }) (fun k=>by simp) (fun k xs x=>by simp)];rw[O6 (fun k xs=>{ k with iw:=k.iw++xs }) (fun k x=>{ k with iw:=k.iw++[x] }) (fun k=>by simp) (fun k xs x=>by simp)];rw[O6 (fun k xs=>{ k with gq:=k.gq++xs }) (fun k x=>{ k with gq:=k.gq++[x] }) (fun k=>by simp) (fun k xs x=>by simp)];rw[O6 (fun k xs=>{ k with ay:=k.ay++xs }) (fun k x=>{ k with ay:=k.ay++[x] }) (fun k=>by simp) (fun k xs x=>by simp)];rw[O6 (fun k xs=>{ k with body:=k.body++xs }) Dj (fun k=>by simp) (fun k xs x=>by simp[Dj])];simp[K0]
theorem a1m (ls:List dh) (h:∀l,l∈ls->10∉bL l):Gz (F6 ls)=ls:=by
 induction ls with
 | nil=>rfl
 | cons l ls ih =>
  have e:bL (F6 (l::ls))=bL l++10::bL (F6 ls):=by
   rw[F6,Q9,Q9];rfl
  rw[aue l (F6 ls) _ e (h l (Hr ..)),ih (fun x hx=>h x (Gu _ hx))]
theorem ape {ks:List dw} (h:Pn ks=true):Oo (F6 (G8 ks))=ks:=by
 have hno:∀l,l∈G8 ks->10∉bL l:=by
  intro l hl;obtain⟨k,hk,hl⟩:=List.mem_flatMap.1 hl;obtain⟨i,hi,rfl⟩:=List.mem_iff_getElem.1 hk;exact awo (Xn h i hi) (fun j hj=>(Xn h j hj).name) (Nat.le_of_lt hi) l hl
 have key:∀i,i<=ks.length->((ks.take i).flatMap (Hu ks)).foldl Me []=ks.take i:=by
  intro i
  induction i with
  | zero=>intro _;rfl
  | succ i ih =>
   intro hi
   have e:(ks.take (i+1)).flatMap (Hu ks)=(ks.take i).flatMap (Hu ks)++Hu ks (ks[i]'(by omega)):=by
    rw[Eu (by omega),List.flatMap_append];simp
   rw[e,Ju,ih (by omega),axj h i (by omega)]
 unfold Oo;rw[a1m _ hno];have h9:=key ks.length (gu _);rw[Dw] at h9;rw[show G8 ks=ks.flatMap (Hu ks) from rfl,h9]
end Go.Proofs.YtfeejeflmcapoaaGreatDoor
