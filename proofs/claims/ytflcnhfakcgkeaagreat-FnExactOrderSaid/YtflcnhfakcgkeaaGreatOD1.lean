import Derived.Test.YtflcnhfakcgkeaaGreatImplB
import Derived.Test.YtflcnhfakcgkeaaGreatCY2
namespace Go.Proofs.YtflcnhfakcgkeaaGreat
open Go.RowKit
set_option linter.unusedSimpArgs false
set_option linter.unusedVariables false
def Gn (d:List Int) (e:Int):Bool:=d.any fun z=>z == e
theorem Hq (d:List Int) (e:Int):Gn d e=true↔e∈d:=by
 unfold Gn
 rw[List.any_eq_true]
 constructor
 ·rintro⟨y,hy,h⟩
  rw[beq_iff_eq] at h
  rw[←h]
  exact hy
 ·intro h
  exact⟨e,h,by simp⟩
def Ro (es:List qg) (names:List ByteArray) (d:List Int) (m:Nat):Bool:=(names.take m).all fun nm=>decide (Ce es nm<0)||Gn d (Ce es nm)
def Ze (x:ay) (e:qg) (d:List Int):Bool:=Ro x.eqs (readsOf (aj x) e) d (readsOf (aj x) e).length
theorem aou (es:List qg) (names:List ByteArray) (d:List Int) (m:Nat) (hm:m<names.length):Ro es names d (m+1)=(Ro es names d m&&(decide (Ce es names[m]<0)||Gn d (Ce es names[m]))):=by
 unfold Ro
 rw[List.take_succ_eq_append_getElem hm,List.all_append]
 simp
def Nz (x:ay) (d:List Int) (e:Nat):Bool:=match x.eqs[e]? with|some q=>!Gn d (e:Int)&&Ze x q d|none=>false
theorem av8 (x:ay) (d:List Int) (e:Nat) (he:e<x.eqs.length):Nz x d e=(!Gn d (e:Int)&&Ze x x.eqs[e] d):=by
 unfold Nz
 rw[List.getElem?_eq_getElem he]
def Ie (p:Nat->Bool) (n:Nat):Nat->Int
 | 0 => -1
 | j+1=>if p (n-1-j) then ((n-1-j:Nat):Int) else Ie p n j
theorem aqx {p:Nat->Bool} {n e:Nat} (he:e<n) (hp:p e=true):∀j,j<=n->n-j<=e->(∀k,n-j<=k->k<e->p k=false)->Ie p n j=(e:Int):=by
 intro j
 induction j with
 | zero=>intro _ h1 _;omega
 | succ j ih =>
  intro hj h1 h
  unfold Ie
  by_cases c:n-1-j=e
  ·rw[c,hp];rfl
  ·rw[h (n-1-j) (by omega) (by omega)]
   exact ih (by omega) (by omega) (fun k h2 h3=>h k (by omega) h3)
def pick (x:ay) (d:List Int):Int:=Ie (Nz x d) x.eqs.length x.eqs.length
def su (x:ay):Nat->List Int
 | 0=>[]
 | k+1=>su x k++[pick x (su x k)]
theorem Jw (x:ay) (k:Nat):(su x k).length=k:=by
 induction k with
 | zero=>rfl
 | succ k ih=>unfold su;rw[List.length_append,ih];rfl
theorem axd (x:ay) (d:List Int) : -1<=pick x d∧pick x d<x.eqs.length∨pick x d = -1:=by
 unfold pick
 have:∀j,j<=x.eqs.length->(-1<=Ie (Nz x d) x.eqs.length j∧Ie (Nz x d) x.eqs.length j<x.eqs.length)∨Ie (Nz x d) x.eqs.length j = -1:=by
  intro j
  induction j with
  | zero=>intro _;exact Or.inr rfl
  | succ j ih =>
   intro hj
   unfold Ie
   split
   ·left;omega
   ·exact ih (by omega)
 exact this _ (Nat.le_refl _)
theorem aqy:∀(n:Nat) (l:List Nat),l.Nodup->(∀x,x∈l->x<n)->l.length<=n:=by
 intro n
 induction n with
 | zero =>
  intro l _ h
  cases l with
  | nil=>exact Nat.le_refl _
  | cons a r=>exact absurd (h a (List.mem_cons_self ..)) (Nat.not_lt_zero _)
 | succ n ih =>
  intro l hl h
  have h1:=ih (l.erase n) (hl.erase n) (fun x hx=>by
   rw[hl.mem_erase_iff] at hx
   have:=h x hx.2
   have:=hx.1
   omega)
  rw[List.length_erase] at h1
  split at h1<;>omega
theorem aug {E:Nat->Nat->Prop} {n:Nat} {S:Nat->Prop} (hS:∀v,S v->v<n) (hE:∀v,S v->∃g,S g∧E v g) {v0:Nat} (h0:S v0):∃u,u<n∧Tg E u u:=by
 have key:∀j,(∃u,u<n∧Tg E u u)∨∃(l:List Nat) (v:Nat),l.length=j+1∧l.Nodup∧(∀y,y∈l->S y)∧v∈l∧∀y,y∈l->y=v∨Tg E y v:=by
  intro j
  induction j with
  | zero=>exact Or.inr ⟨[v0],v0,rfl,by simp,fun y hy=>by rw[List.mem_singleton] at hy;rw[hy];exact h0,List.mem_singleton.2 rfl,fun y hy=>Or.inl (List.mem_singleton.1 hy)⟩
  | succ j ih =>
   rcases ih with h|⟨l,v,hl,hnd,hs,hv,ht⟩
   ·exact Or.inl h
   ·obtain⟨g,hg,he⟩:=hE v (hs v hv)
    by_cases c:g∈l
    ·refine Or.inl ⟨g,hS g hg,?_⟩
     rcases ht g c with h|h
     ·rw[h] at he ⊢
      exact Tg.one he
     ·exact Tg.snoc h he
    ·refine Or.inr ⟨g::l,g,by rw[List.length_cons,hl],List.nodup_cons.2 ⟨c,hnd⟩,?_,List.mem_cons_self ..,?_⟩
     ·intro y hy
      rcases List.mem_cons.1 hy with h|h
      ·rw[h];exact hg
      ·exact hs y h
     ·intro y hy
      rcases List.mem_cons.1 hy with h|h
      ·exact Or.inl h
      ·rcases ht y h with h9|h9
       ·rw[h9];exact Or.inr (Tg.one he)
       ·exact Or.inr (Tg.snoc h9 he)
 rcases key n with h|⟨l,v,hl,hnd,hs,_,_⟩
 ·exact h
 ·have:=aqy n l hnd (fun y hy=>hS y (hs y hy))
  omega
theorem axe:∀(n:Nat) (d:List Int),(∀e:Nat,e<n->(e:Int)∈d)->n<=d.length:=by
 intro n
 induction n with
 | zero=>intro d _;omega
 | succ n ih =>
  intro d h
  have h1:=ih (d.erase (n:Int)) (fun e he=>(List.mem_erase_of_ne (by omega)).2 (h e (by omega)))
  have h2:=h n (by omega)
  rw[List.length_erase_of_mem h2] at h1
  have:=List.length_pos_of_mem h2
  omega
theorem aqz (n:Nat) (d:List Int) (hd:d.length<n):∃e:Nat,e<n∧(e:Int)∉d:=by
 refine Classical.byContradiction fun hc=>?_
 have h9:=axe n d (fun e he=>Classical.byContradiction fun h=>hc ⟨e,he,h⟩)
 omega
def edN (x:ay) (u v:Nat):Prop:=edge x u v=true
theorem amj (x:ay) (e:Nat) (he:e<x.eqs.length) (d:List Int):Ze x x.eqs[e] d=true↔∀g,edN x e g->(g:Int)∈d:=by
 unfold Ze Ro
 rw[List.take_length,List.all_eq_true]
 constructor
 ·intro h g hg
  obtain⟨_,nm,hn,hd⟩:=(Tv x e g).1 hg
  have h1:=h nm hn
  rw[hd,Bool.or_eq_true,decide_eq_true_iff,Hq] at h1
  rcases h1 with h1|h1
  ·omega
  ·exact h1
 ·intro h nm hn
  rw[Bool.or_eq_true,decide_eq_true_iff,Hq]
  by_cases c:Ce x.eqs nm<0
  ·exact Or.inl c
  ·right
   have h1:=h (Ce x.eqs nm).toNat ((Tv x e _).2 ⟨he,nm,hn,by omega⟩)
   have e9:(((Ce x.eqs nm).toNat:Nat):Int)=Ce x.eqs nm:=by omega
   rw[e9] at h1
   exact h1
theorem ahj {x:ay} {u v:Nat} (h:edN x u v):u<x.eqs.length∧v<x.eqs.length:=by
 obtain⟨hu,nm,_,h2⟩:=(Tv x u v).1 h
 have:=(abr x.eqs nm).2
 exact⟨hu,by omega⟩
structure Okn (ns:List ay) (i:Nat) (x:ay):Prop where
 dup:∀j (hj:j<(aj x).length),jc (aj x) (aj x)[j].name=j
 eqs:∀k,k<x.eqs.length->Lp ns i x (qx x) k=0
 gi:GI x (ru x (qx x) x.eqs.length) x.eqs.length
 lp:aar x (ru x (qx x) x.eqs.length)
 ed:∀u v,D7 x (ru x (qx x) x.eqs.length) u v↔edN x u v
 acy:¬∃u,u<x.eqs.length∧Tg (edN x) u u
 nb:qw x=true
theorem aov {ns:List ay} {i:Nat} {x:ay} (h:(xu ns i x).1=0):firstTo (I4 (aj x)) (aj x).length=none∧firstTo (Dy (aj x)) (aj x).length=none∧firstTo (fun k=>Dz ns i x k != 0) x.eqs.length=none∧Om x=false:=by
 unfold xu at h
 by_cases c:0<=jh ns i x.name
 ·rw[if_pos c] at h;cases h
 rw[if_neg c] at h
 cases h1:firstTo (I4 (aj x)) (aj x).length with
 | some k=>rw[h1] at h;cases h
 | none =>
  rw[h1] at h
  simp only at h
  cases h2:firstTo (Dy (aj x)) (aj x).length with
  | some k=>rw[h2] at h;cases h
  | none =>
   rw[h2] at h
   simp only at h
   cases h3:firstTo (fun k=>Dz ns i x k != 0) x.eqs.length with
   | some k =>
    rw[h3] at h
    obtain⟨_,h9,_⟩:=Uy h3
    simp only at h
    rw[h] at h9
    cases h9
   | none =>
    rw[h3] at h
    simp only at h
    refine⟨rfl,rfl,rfl,?_⟩
    by_cases c3:(wu x.eqs x.eqs.length).length≠x.outs.length+x.vars.length
    ·rw[if_pos c3] at h;cases h
    rw[if_neg c3] at h
    cases hc:Om x with
    | false=>rfl
    | true=>rw[if_pos hc] at h;cases h
theorem azy {ns:List ay} {i:Nat} (hi:i<ns.length) (hnb:∀n,n∈ns->qw n=true) (h:(xu ns i ns[i]).1=0):Okn ns i ns[i]:=by
 obtain⟨x,hx⟩:∃x,x=ns[i]:=⟨_,rfl⟩
 rw[←hx] at h ⊢
 have hxb:qw x=true:=by rw[hx];exact hnb _ (List.getElem_mem hi)
 obtain⟨h1,h2,h3,h4⟩:=aov h
 have hdup:=amc h1
 have heq:∀m k,k<m->k<x.eqs.length->Lp ns i x (qx x) k=0:=by
  intro m
  induction m with
  | zero=>intro k hk;omega
  | succ m ih =>
   intro k hk hl
   rw[afd hxb hdup k hl (fun j hj=>ih j (by omega) (by omega))]
   have h9:=Nq h3 k hl
   simpa using h9
 have heq':∀k,k<x.eqs.length->Lp ns i x (qx x) k=0:=fun k hk=>heq (k+1) k (by omega) hk
 have hg:=ajc (ns:=ns) (i:=i) hdup x.eqs.length (Nat.le_refl _) heq'
 have hok:=anv hnb hxb (Nq h2) heq'
 have adg:∀e,e∈x.eqs->Sv (aj x) e=true:=fun e he=>by
  obtain⟨k,hk,rfl⟩:=List.mem_iff_getElem.1 he
  have h9:=heq' k hk
  rw[Ye _ _ _ _ _ hk] at h9
  exact(Tj h9).2.2.2
 refine⟨hdup,heq',hg,hok,fun u v=>?_,?_,hxb⟩
 ·unfold edN
  rw[Tv]
  unfold D7
  constructor
  ·rintro⟨hu,nm,h1,h2⟩
   have hm:=List.getElem_mem hu
   exact⟨hu,nm,(Zc (adg _ hm) (hok.lh _ hm) nm).2 h1,(abu hg (hok.nms _ hm nm h1).1 v).2 h2⟩
  ·rintro⟨hu,nm,h1,h2⟩
   have hm:=List.getElem_mem hu
   have h3:=(Zc (adg _ hm) (hok.lh _ hm) nm).1 h1
   exact⟨hu,nm,h3,(abu hg (hok.nms _ hm nm h3).1 v).1 h2⟩
 ·rintro⟨u,hu,ht⟩
  have h9:Om x=true:=by
   unfold Om
   rw[ajd]
   exact⟨u,hu,avy _ _ _ (Nat.le_refl _) u u hu hu (avx (fun a b h=>ahj h) (E:=fun a b=>edge x a b=true) ht)⟩
  rw[h4] at h9
  cases h9
theorem Zd {ns:List ay} (h:(qp ns).1=0):Ar ns=true∧∀i (hi:i<ns.length),Okn ns i ns[i]:=by
 unfold qp at h
 cases hs:Ar ns with
 | false=>rw[if_pos hs] at h;cases h
 | true =>
  rw[if_neg (by rw[hs];simp)] at h
  refine⟨rfl,fun i hi=>?_⟩
  have hnb:∀n,n∈ns->qw n=true:=fun n hn=>by
   have h9:=hs
   unfold Ar at h9
   rw[Bool.and_eq_true] at h9
   exact List.all_eq_true.1 h9.2 n hn
  refine azy hi hnb ?_
  cases hf:firstTo (fun i=>(Bh ns i).1 != 0) ns.length with
  | some k =>
   rw[hf] at h
   obtain⟨_,h9,_⟩:=Uy hf
   simp only at h
   rw[h] at h9
   cases h9
  | none =>
   have h9:=Nq hf i hi
   rw[acw ns i hi] at h9
   simpa using h9
theorem amk {ns:List ay} {i:Nat} {x:ay} (ho:Okn ns i x) (d:List Int) (hd:d.length<x.eqs.length):∃e:Nat,e<x.eqs.length∧pick x d=(e:Int)∧(e:Int)∉d∧(∀g,edN x e g->(g:Int)∈d)∧∀j,j<e->Nz x d j=false:=by
 have hex:∃e:Nat,e<x.eqs.length∧(e:Int)∉d∧∀g,edN x e g->(g:Int)∈d:=by
  refine Classical.byContradiction fun hc=>?_
  obtain⟨v0,h1,h2⟩:=aqz _ d hd
  refine ho.acy (aug (S:=fun v=>v<x.eqs.length∧(v:Int)∉d) (fun v h=>h.1) (fun v h=>?_) ⟨h1,h2⟩)
  refine Classical.byContradiction fun hn=>hc ⟨v,h.1,h.2,fun g hg=>Classical.byContradiction fun hgd=>hn ⟨g,⟨(ahj hg).2,hgd⟩,hg⟩⟩
 have hfr:∀e,e<x.eqs.length->(Nz x d e=true↔(e:Int)∉d∧∀g,edN x e g->(g:Int)∈d):=fun e he=>by
  rw[av8 x d e he,Bool.and_eq_true,amj x e he,Bool.not_eq_true',←Bool.not_eq_true,Hq]
 obtain⟨e,he,h1⟩:=hex
 have hs:=first_some he ((hfr e he).2 h1)
 cases hq:firstTo (Nz x d) x.eqs.length with
 | none=>rw[hq] at hs;cases hs
 | some k =>
  obtain⟨g1,g2,g3⟩:=Uy hq
  obtain⟨g4,g5⟩:=(hfr k g1).1 g2
  exact⟨k,g1,aqx g1 g2 _ (Nat.le_refl _) (by omega) (fun j _ hj=>g3 j hj),g4,g5,g3⟩
theorem aow {ns:List ay} {i:Nat} {x:ay} (ho:Okn ns i x):∀k,k<=x.eqs.length->∀z,z∈su x k->∃e:Nat,e<x.eqs.length∧z=(e:Int)∧∀g,edN x e g->(g:Int)∈su x k:=by
 intro k
 induction k with
 | zero=>intro _ z hz;cases hz
 | succ k ih =>
  intro hk z hz
  unfold su at hz ⊢
  rcases List.mem_append.1 hz with h|h
  ·obtain⟨e,h1,h2,h3⟩:=ih (by omega) z h
   exact⟨e,h1,h2,fun g hg=>List.mem_append.2 (Or.inl (h3 g hg))⟩
  ·obtain⟨e,h1,h2,h3,h4,_⟩:=amk ho (su x k) (by rw[Jw];omega)
   rw[List.mem_singleton,h2] at h
   exact⟨e,h1,h,fun g hg=>List.mem_append.2 (Or.inl (h4 g hg))⟩
def Rz (c:Nat->Nat->Nat) (n:Nat) (d:List Int) (e:Nat):Nat:=((List.range n).map fun (g:Nat)=>if Gn d (g:Int) then 0 else c e g).sum
theorem akc:∀(l:List Nat),l.sum=0↔∀x,x∈l->x=0:=by
 intro l
 induction l with
 | nil=>simp
 | cons a r ih =>
  rw[List.sum_cons]
  constructor
  ·intro h x hx
   rcases List.mem_cons.1 hx with h1|h1
   ·omega
   ·exact ih.1 (by omega) x h1
  ·intro h
   have h1:=h a (List.mem_cons_self ..)
   have h2:=ih.2 (fun x hx=>h x (List.mem_cons_of_mem _ hx))
   omega
theorem auh (c:Nat->Nat->Nat) (n:Nat) (d:List Int) (e:Nat):Rz c n d e=0↔∀g:Nat,g<n->c e g≠0->(g:Int)∈d:=by
 unfold Rz
 rw[akc]
 constructor
 ·intro h g hg hc
  have h1:=h _ (List.mem_map.2 ⟨g,List.mem_range.2 hg,rfl⟩)
  split at h1
  ·rename_i h2;exact(Hq _ _).1 h2
  ·exact absurd h1 hc
 ·intro h y hy
  obtain⟨g,hg,rfl⟩:=List.mem_map.1 hy
  rw[List.mem_range] at hg
  split
  ·rfl
  ·rename_i h2
   refine Classical.byContradiction fun h3=>h2 ((Hq _ _).2 (h g hg h3))
theorem aui (c:Nat->Nat->Nat) (d:List Int) (e g0:Nat) (hd:(g0:Int)∉d):∀n,g0<n->Rz c n (d++[(g0:Int)]) e+c e g0=Rz c n d e:=by
 have hne:∀g:Nat,g≠g0->Gn (d++[(g0:Int)]) (g:Int)=Gn d (g:Int):=fun g hg=>by
  rw[Bool.eq_iff_iff,Hq,Hq,List.mem_append,List.mem_singleton]
  constructor
  ·rintro(h|h)
   ·exact h
   ·omega
  ·exact Or.inl
 have hlt:∀n,n<=g0->Rz c n (d++[(g0:Int)]) e=Rz c n d e:=fun n hn=>by
  unfold Rz
  congr 1
  apply List.map_congr_left
  intro g hg
  rw[List.mem_range] at hg
  rw[hne g (by omega)]
 intro n
 induction n with
 | zero=>intro h;omega
 | succ n ih =>
  intro h
  have hs:∀d,Rz c (n+1) d e=Rz c n d e+(if Gn d (n:Int) then 0 else c e n):=fun d=>by
   unfold Rz
   rw[List.range_succ,List.map_append,List.sum_append]
   simp
  rw[hs,hs]
  by_cases q:n=g0
  ·subst q
   have h1:=hlt n (Nat.le_refl _)
   have h2:Gn (d++[(n:Int)]) (n:Int)=true:=(Hq _ _).2 (List.mem_append.2 (Or.inr (List.mem_singleton.2 rfl)))
   have h3:Gn d (n:Int)=false:=by
    cases hb:Gn d (n:Int) with
    | false=>rfl
    | true=>exact absurd ((Hq _ _).1 hb) hd
   rw[h1,h2,h3]
   simp
  ·have h1:=ih (by omega)
   rw[hne n q]
   omega
theorem akd (d:List Int) (m:Nat) (hm:m<d.length) (e:Int):Gn (d.take (m+1)) e=(Gn (d.take m) e||(d[m] == e)):=by
 unfold Gn
 rw[List.take_succ_eq_append_getElem hm,List.any_append]
 simp
set_option maxRecDepth 20000 in
set_option maxHeartbeats 8000000 in
theorem aox (x:ay) (N:Nat) (hNe:x.eqs.length=N) (b1 b2 b3 b4:Option Addr) (c1 c2 c3 c4:Nat) (hsum:x.ins.length+x.outs.length+x.vars.length<=1048576) (w:World) (hni:Iu x b1 b2 b3 c1 c2 c3 w) (h4:bf 4 88 Dt 0 w (.slice b4 N c4) x.eqs)
  (e:qg) (v1 v2 v3:Value) (h1:bf 1 16 Cc 0 w v1 e.lhs) (h2:bf 3 32 jw 0 w v2 e.code) (h3:bf 1 24 yu 0 w v3 e.args)
  (hsm:((dw e).length<=500∧∀c,c∈dw e->c.length<=3000)∧e.lhs.length<=500) (hck:∀nm,(jv (aj x) nm).length<=8) (hnl:∀nm,nm∈readsOf (aj x) e->Len nm.size)
  (d:List Int) (dv:Value) (hd:bf 1 8 Oo 0 w dv d) (hdl:d.length<=500) :
  Calls Tryz.prog 15 #[.agg #[.string x.name,.slice b1 x.ins.length c1,.slice b2 x.outs.length c2,.slice b3 x.vars.length c3,.slice b4 N c4],.agg #[v1,v2,.string e.call,v3],dv] w (Ans (.bool (Ze x e d)) w):=by
 have Oh:=hide (fun w1 (hb:Below w.heap.size w w1)=>ad5 x b1 b2 b3 b4 c1 c2 c3 N c4 hsum e v1 v2 v3 w1 (hni.stays hb) (h1.stays uw hb) (h2.stays je hb) (h3.stays lq hb) hsm.2 hck hsm.1.2 hsm.1.1 hnl)
 have HDF:=hide (fun nm w1 (hb:Below w.heap.size w w1)=>aav x.eqs x.name b1 b2 b3 x.ins.length x.outs.length x.vars.length c1 c2 c3 _ nm w1 (h4.stays xq hb))
 have HRL:Hid ((readsOf (aj x) e).length<=2000000):=by
  have h1:=Nat.add_le_add (ac5 (aj x) e.lhs 8 hck e.lhs.length) (aaj (dw e) 3000 hsm.1.2 (dw e).length)
  have h2:=hsm.2
  have h3:(dw e).length*3000<=500*3000:=Nat.mul_le_mul_right _ hsm.1.1
  refine hide ?_
  unfold readsOf
  rw[List.length_append]
  omega
 have HRY:Hid (Ze x e d=Ro x.eqs (readsOf (aj x) e) d (readsOf (aj x) e).length):=hide rfl
 obtain⟨l1,zn,rfl⟩:=h1.shape
 obtain⟨l2,zx,rfl⟩:=h2.shape
 obtain⟨l3,zy,rfl⟩:=h3.shape
 obtain⟨_,dc,rfl,_,_,hdx⟩:=hd
 rename Option Addr=>da
 have HDX:=hide hdx
 have HDL:=hide hdl
 have Gi:=hide (fun nms m hm=>aou x.eqs nms d m hm)
 clear hsm hck hnl hni h4 hsum h1 h2 h3 hdx hdl
 generalize Ze x e d=R at *
 generalize readsOf (aj x) e=nms at *
 generalize e.lhs.length=e1 at *
 generalize e.code.length=e2 at *
 generalize e.args.length=e3 at *
 generalize e.call=Hw at *
 have hA:Below w.heap.size w ((w.alloc (.cells #[.string x.name,.slice b1 x.ins.length c1,.slice b2 x.outs.length c2,.slice b3 x.vars.length c3,.slice b4 N c4] 42)).alloc (.cells #[.slice l1 e1 zn,.slice l2 e2 zx,.string Hw,.slice l3 e3 zy] 48)):=((Below.refl _ _).alloc (Nat.le_refl _) _).alloc (by simp) _
 have hAz:((w.alloc (.cells #[.string x.name,.slice b1 x.ins.length c1,.slice b2 x.outs.length c2,.slice b3 x.vars.length c3,.slice b4 N c4] 42)).alloc (.cells #[.slice l1 e1 zn,.slice l2 e2 zx,.string Hw,.slice l3 e3 zy] 48)).heap.size=w.heap.size+2:=by simp
 have hBN:dh ((w.alloc (.cells #[.string x.name,.slice b1 x.ins.length c1,.slice b2 x.outs.length c2,.slice b3 x.vars.length c3,.slice b4 N c4] 42)).alloc (.cells #[.slice l1 e1 zn,.slice l2 e2 zx,.string Hw,.slice l3 e3 zy] 48)) w.heap.size 42 #[.string x.name,.slice b1 x.ins.length c1,.slice b2 x.outs.length c2,.slice b3 x.vars.length c3,.slice b4 N c4]:=(jd w #[.string x.name,.slice b1 x.ins.length c1,.slice b2 x.outs.length c2,.slice b3 x.vars.length c3,.slice b4 N c4] 42).below ((Below.refl _ _).alloc (Nat.le_refl _) _) (by simp)
 have hBI:dh ((w.alloc (.cells #[.string x.name,.slice b1 x.ins.length c1,.slice b2 x.outs.length c2,.slice b3 x.vars.length c3,.slice b4 N c4] 42)).alloc (.cells #[.slice l1 e1 zn,.slice l2 e2 zx,.string Hw,.slice l3 e3 zy] 48)) (w.heap.size+1) 48 #[.slice l1 e1 zn,.slice l2 e2 zx,.string Hw,.slice l3 e3 zy]:=by
  have:=jd (w.alloc (.cells #[.string x.name,.slice b1 x.ins.length c1,.slice b2 x.outs.length c2,.slice b3 x.vars.length c3,.slice b4 N c4] 42)) #[.slice l1 e1 zn,.slice l2 e2 zx,.string Hw,.slice l3 e3 zy] 48
  rwa[show (w.alloc (.cells #[.string x.name,.slice b1 x.ins.length c1,.slice b2 x.outs.length c2,.slice b3 x.vars.length c3,.slice b4 N c4] 42)).heap.size=w.heap.size+1 from by simp] at this
 obtain⟨BX,ku⟩:∃BX:World->Prop,∀w',BX w'↔Below (w.heap.size+2) ((w.alloc (.cells #[.string x.name,.slice b1 x.ins.length c1,.slice b2 x.outs.length c2,.slice b3 x.vars.length c3,.slice b4 N c4] 42)).alloc (.cells #[.slice l1 e1 zn,.slice l2 e2 zx,.string Hw,.slice l3 e3 zy] 48)) w':=⟨_,fun _=>Iff.rfl⟩
 have jy:Hid (∀w1,BX w1->Below w.heap.size w w1):=fun w1 h=>hA.trans (((ku w1).1 h).mono (by omega))
 have Bq:Hid (∀w1 w2,BX w1->Below w1.heap.size w1 w2->BX w2):=fun w1 w2 h h2=>(ku w2).2 (((ku w1).1 h).trans (h2.mono (by have:=((ku w1).1 h).size;omega)))
 have Bf:Hid (∀w1,BX w1->w1.cell? ⟨w.heap.size,0,none⟩=some (.string x.name)∧w1.cell? ⟨w.heap.size,1,none⟩=some (.slice b1 x.ins.length c1)∧w1.cell? ⟨w.heap.size,2,none⟩=some (.slice b2 x.outs.length c2)∧w1.cell? ⟨w.heap.size,3,none⟩=some (.slice b3 x.vars.length c3)∧w1.cell? ⟨w.heap.size,4,none⟩=some (.slice b4 N c4)∧w1.cell? ⟨w.heap.size+1,0,none⟩=some (.slice l1 e1 zn)∧w1.cell? ⟨w.heap.size+1,1,none⟩=some (.slice l2 e2 zx)∧w1.cell? ⟨w.heap.size+1,2,none⟩=some (.string Hw)∧w1.cell? ⟨w.heap.size+1,3,none⟩=some (.slice l3 e3 zy)):=fun w1 h=>⟨(hBN.below ((ku w1).1 h) (by omega)).cell (i:=0) (v:=.string x.name) rfl,(hBN.below ((ku w1).1 h) (by omega)).cell (i:=1) (v:=.slice b1 x.ins.length c1) rfl,(hBN.below ((ku w1).1 h) (by omega)).cell (i:=2) (v:=.slice b2 x.outs.length c2) rfl,(hBN.below ((ku w1).1 h) (by omega)).cell (i:=3) (v:=.slice b3 x.vars.length c3) rfl,(hBN.below ((ku w1).1 h) (by omega)).cell (i:=4) (v:=.slice b4 N c4) rfl,(hBI.below ((ku w1).1 h) (by omega)).cell (i:=0) (v:=.slice l1 e1 zn) rfl,(hBI.below ((ku w1).1 h) (by omega)).cell (i:=1) (v:=.slice l2 e2 zx) rfl,(hBI.below ((ku w1).1 h) (by omega)).cell (i:=2) (v:=.string Hw) rfl,(hBI.below ((ku w1).1 h) (by omega)).cell (i:=3) (v:=.slice l3 e3 zy) rfl⟩
 have HX0:Hid (BX ((w.alloc (.cells #[.string x.name,.slice b1 x.ins.length c1,.slice b2 x.outs.length c2,.slice b3 x.vars.length c3,.slice b4 N c4] 42)).alloc (.cells #[.slice l1 e1 zn,.slice l2 e2 zx,.string Hw,.slice l3 e3 zy] 48))):=(ku _).2 (Below.refl _ _)
 have HCR:=hide (uh Oh _ (uh jy _ (uh HX0)))
 obtain⟨q0,q1,q2,q3,q4,p0,p1,p2,p3⟩:=uh Bf _ (uh HX0)
 clear hA hAz hBN hBI ku Oh
 go_enter Tryz.func15,Tryz.ntmps15
 go_wp2_with fail
 refine(uh HCR).mono ?_
 rintro e9 w1 ⟨vn,rfl,hnS,hb1⟩
 have Gq:=hide (uh Bq _ _ (uh HX0) hb1)
 obtain⟨an,cn,rfl⟩:=hnS.shape
 obtain⟨_,_,hvn,_,hnn,hnx⟩:=hnS
 simp only[Value.slice.injEq] at hvn
 obtain⟨rfl,H8,rfl⟩:=hvn
 have xw:=hide hnx
 clear hnx hnn hb1 q0 q1 q2 q3 q4 p0 p1 p2 p3 HCR H8
 go_wp2
 go_loopg [17] nms.length (fun g i wr=>∃(m:Nat),m<=nms.length∧g=nms.length-m∧i=.int .i64 m∧BX wr∧Below w1.heap.size w1 wr∧Ro x.eqs nms d m=true)
 case atStart=>exact⟨0,Nat.zero_le _,by omega,rfl,uh Gq,Below.refl _ _,rfl⟩
 case round =>
  obtain⟨m,hm,hgm,rfl,hbx,hb,hok⟩:=hrel
  rename World=>wM
  have Hy:=hide hgm
  have afg:=hide hbx
  have Az:=hide hb
  have HOK:=hide hok
  obtain⟨s0,s1,s2,s3,s4,_,_,_,_⟩:=uh Bf wM hbx
  clear hgm hbx hok
  have HB0:=hide (uh jy _ (uh afg))
  by_cases Aj:m<nms.length
  case neg =>
   have hme:m=nms.length:=by omega
   have hmI:¬(m:Int)<(nms.length:Int):=by omega
   have HR:Hid (R=true):=by rw[uh HRY,←hme];exact HOK
   have gq:=uh HB0
   have HF9:=hide gq
   clear hme Aj gq
   go_wp2
   go_ret
   exact⟨gu (uh HR).symm,uh HF9⟩
  obtain⟨bn,on,cs,jr,a3b,hbn,hcs,hc0,hR⟩:=uh xw m Aj
  subst jr
  obtain⟨rfl,hsn⟩:=hR
  have r0:wM.cell? ⟨bn,on+m,none⟩=some (.string nms[m]):=by
   refine(hb.cell (p:=⟨bn,_,none⟩) hbn).trans ?_
   simpa using hc0 0 (by simp)
  have HST:=hide (uh Gi nms m Aj)
  have HD:=hide (uh HDF nms[m] wM (uh HB0))
  have hdb:=abr x.eqs nms[m]
  have ahe:(m:Int)<(nms.length:Int):=by omega
  have a6g:=uh HRL
  clear hc0 hcs hb hsn
  generalize nms[m]=nm at *
  generalize Ce x.eqs nm=di at *
  go_wp2_with fail
  refine(uh HD).mono ?_
  rintro e9 w2 ⟨rfl,hb2⟩
  have Jo:=hide (uh Bq _ _ (uh afg) hb2)
  have HB2:Hid (Below w1.heap.size w1 w2):=(uh Az).trans (hb2.mono (uh Az).size)
  clear hb2 r0 s0 s1 s2 s3 s4 HD
  by_cases hd0:di<0
  ·have ake:Hid (Ro x.eqs nms d (m+1)=true):=by
    rw[uh HST,uh HOK,decide_eq_true hd0]
    exact hide rfl
   have dd:decide (di<0)=true:=decide_eq_true hd0
   clear hdb
   go_wp2
   go_roundg (nms.length-(m+1))
   case measure =>
    have h9:=uh Hy
    omega
   case rel=>exact⟨m+1,Aj,rfl,by go_num,uh Jo,uh HB2,uh ake⟩
  ·have dd:decide (di<0)=false:=decide_eq_false hd0
   have HDI:=hide hd0
   clear hdb hd0
   go_wp2
   go_loopg [10,28] d.length (fun g f i wr=>∃(k:Nat),k<=d.length∧g=d.length-k∧i=.int .i64 k∧wr=w2∧f=.bool (Gn (d.take k) di))
   case atStart=>exact⟨0,Nat.zero_le _,by omega,rfl,rfl,rfl⟩
   case round =>
    obtain⟨k,hk,hgk,rfl,hwr,rfl⟩:=hrel
    rw[hwr]
    clear hwr
    have HGK:=hide hgk
    clear hgk
    have Tn:=uh HDL
    by_cases hltk:k<d.length
    case neg =>
     have hke:k=d.length:=by omega
     have Ec:¬(k:Int)<(d.length:Int):=by omega
     have HTK:Hid (d.take k=d):=by rw[hke,List.take_length];exact hide rfl
     rw[uh HTK]
     cases hin:Gn d di
     ·have HR:Hid (R=false):=by
       have hz:Ro x.eqs nms d (m+1)=false:=by
        rw[uh HST,hin,decide_eq_false (show ¬di<0 by have:=uh HDI;omega)]
        simp
       refine hide ?_
       rw[uh HRY]
       unfold Ro at hz ⊢
       rw[List.take_length]
       cases hall:(nms.all fun nm=>decide (Ce x.eqs nm<0)||Gn d (Ce x.eqs nm)) with
       | false=>rfl
       | true =>
        exfalso
        rw[List.all_eq_true] at hall
        have:((nms.take (m+1)).all fun nm=>decide (Ce x.eqs nm<0)||Gn d (Ce x.eqs nm))=true:=List.all_eq_true.2 (fun y hy=>hall y (List.mem_of_mem_take hy))
        rw[hz] at this
        cases this
      have gq:=hide (uh jy _ (uh Jo))
      clear hke hltk hin Tn
      go_wp2
      go_ret
      exact⟨gu (uh HR).symm,uh gq⟩
     ·have ake:Hid (Ro x.eqs nms d (m+1)=true):=by
       rw[uh HST,uh HOK,hin,Bool.or_true]
       exact hide rfl
      clear hke hltk hin Tn
      go_wp2
      go_roundg (nms.length-(m+1))
      case measure =>
       have h9:=uh Hy
       omega
      case rel=>exact⟨m+1,Aj,rfl,by go_num,uh Jo,uh HB2,uh ake⟩
    obtain⟨bd,od,cs,jr,_,hbn,hcs,hc0,hR⟩:=uh HDX k hltk
    subst jr
    obtain⟨rfl,hsn⟩:=hR
    have r0:w2.cell? ⟨bd,od+k,none⟩=some (.int .i64 d[k]):=by
     refine((uh jy _ (uh Jo)).cell (p:=⟨bd,_,none⟩) hbn).trans ?_
     simpa using hc0 0 (by simp)
    have HIT:=hide (akd d k hltk di)
    have Ec:(k:Int)<(d.length:Int):=by omega
    clear hc0 hcs hsn
    generalize d[k]=dk at *
    cases hin:Gn (d.take k) di
    ·rw[hin,Bool.false_or] at HIT
     go_wp2
     go_roundg (d.length-(k+1))
     case measure =>
      have h9:=uh HGK
      omega
     case rel=>exact⟨k+1,hltk,rfl,by go_num,rfl,by rw[uh HIT]⟩
    ·rw[hin,Bool.true_or] at HIT
     go_wp2
     go_roundg (d.length-(k+1))
     case measure =>
      have h9:=uh HGK
      omega
     case rel=>exact⟨k+1,hltk,rfl,by go_num,rfl,by rw[uh HIT]⟩
end Go.Proofs.YtflcnhfakcgkeaaGreat
