import Derived.Test.YtfeejeflmcapoaaGreatDoorRT1
set_option linter.unusedSimpArgs false
set_option linter.unusedVariables false
namespace Go.Proofs.YtfeejeflmcapoaaGreatDoor
open Go.RowKit
abbrev Lf:=List (Addr × Bool)
def mkV (t:Bool) (k:Nat):Value:=if t then .string (Hg k) else .int .i64 (k:Int)
def Je:Nat->Lf->List (Addr × Value)
 | _,[]=>[]
 | k,(a,t)::r=>(a,mkV t k)::Je (k+1) r
theorem Ir (k:Nat) (a b:Lf):Je k (a++b)=Je k a++Je (k+a.length) b:=by
 induction a generalizing k with
 | nil=>simp[Je]
 | cons p a ih =>
  obtain⟨x,t⟩:=p;simp only[Fe,Je,uf];rw[ih (k+1)];congr 3;omega
def apW (ls:List (Addr × Value)) (a:Addr) (v:Option Value):Option Value:=ls.foldl (fun v p=>if p.1=a then v.map (fun _=>p.2) else v) v
theorem ajt (l1 l2:List (Addr × Value)) (a:Addr) (v:Option Value):apW (l1++l2) a v=apW l2 a (apW l1 a v):=J3 ..
theorem a0i (ls:List (Addr × Value)) (a:Addr) (v:Option Value) (h:∀p,p∈ls->p.1≠a):apW ls a v=v:=by
 induction ls generalizing v with
 | nil=>rfl
 | cons p ls ih =>
  show apW ls a (if p.1=a then v.map (fun _=>p.2) else v)=v;rw[ay (h p (H7 ..))];exact ih v (fun q hq=>h q (G8 _ hq))
structure X (lo hi:Nat) (ls:List (Addr × Value)) (w w':bf):Prop where
 md:Mk lo hi w w'
 wr:∀b o,b<w.heap.size->w'.cell? ⟨b,o,none⟩=apW ls ⟨b,o,none⟩ (w.cell? ⟨b,o,none⟩)
theorem X.refl (lo hi:Nat) (w:bf):X lo hi [] w w:=⟨Mk.refl lo hi w,fun _ _ _=>rfl⟩
theorem X.trans {lo hi:Nat} {l1 l2:List (Addr × Value)} {a b c:bf} (h:X lo hi l1 a b) (k:X lo hi l2 b c):X lo hi (l1++l2) a c :=
 ⟨h.md.trans k.md,fun x o hx=>by rw[ajt,k.wr x o (qj hx h.md.size),h.wr x o hx]⟩
theorem X.of_below {lo hi:Nat} {w w':bf} (h:Below w.heap.size w w') (hh:hi<=w.heap.size):X lo hi [] w w' :=
 ⟨Mk.of_below h hh,fun b o hb=>h.cell (p:=⟨b,o,none⟩) hb⟩
theorem X.then {lo hi:Nat} {ls:List (Addr × Value)} {w w1 w':bf} (h:X lo hi ls w w1) (hb:Below w1.heap.size w1 w') (hh:hi<=w.heap.size):X lo hi ls w w':=by
 have h9:=h.trans (X.of_below hb (jq hh h.md.size));rwa[Az] at h9
theorem X.setCell {lo hi:Nat} {ls:List (Addr × Value)} {w w':bf} (h:X lo hi ls w w') {b o:Nat} {v u:Value} (h1:lo<=b) (h2:b<hi) (hc:w'.cell? ⟨b,o,none⟩=some v) (hk:Kind2 v u):X lo hi (ls++[(⟨b,o,none⟩,u)]) w (w'.setCell ⟨b,o,none⟩ u):=by
 refine⟨h.md.setCell h1 h2 hc hk,fun b' o' hb=>?_⟩;rw[ajt,←h.wr b' o' hb];show _=if (⟨b,o,none⟩:Addr)=⟨b',o',none⟩ then (w'.cell? ⟨b',o',none⟩).map (fun _=>u) else w'.cell? ⟨b',o',none⟩
 by_cases e:b'=b∧o'=o
 ·obtain⟨rfl,rfl⟩:=e
  rw[gu rfl,hc,afj _ _ _ _ _ hc];rfl
 ·rw[ay (fun h9=>e (by injection h9 with e1 e2;exact⟨e1.symm,e2.symm⟩))]
  exact La _ _ _ _ _ (by simp only;omega)
theorem X.eq {lo hi:Nat} {l1 l2:List (Addr × Value)} {w w':bf} (h:X lo hi l1 w w') (e:l1=l2):X lo hi l2 w w':=e▸h
theorem X.akx {lo hi:Nat} {ls:List (Addr × Value)} {w w':bf} (h:X lo hi ls w w') {b o:Nat} {y:Int} (h1:lo<=b) (h2:b<hi) (hc:w.cell? ⟨b,o,none⟩=some (.int .i64 y)):∃z,w'.cell? ⟨b,o,none⟩=some (.int .i64 z):=by
 obtain⟨v',h3,h4⟩:=h.md.cells b o _ h1 h2 hc;obtain⟨z,rfl⟩:=h4.int;exact⟨z,h3⟩
theorem X.aom {lo hi:Nat} {ls:List (Addr × Value)} {w w':bf} (h:X lo hi ls w w') {b o:Nat} {y:dh} (h1:lo<=b) (h2:b<hi) (hc:w.cell? ⟨b,o,none⟩=some (.string y)):∃z,w'.cell? ⟨b,o,none⟩=some (.string z):=by
 obtain⟨v',h3,h4⟩:=h.md.cells b o _ h1 h2 hc;obtain⟨z,rfl⟩:=h4.str;exact⟨z,h3⟩
theorem X.csl {lo hi:Nat} {ls:List (Addr × Value)} {w w':bf} (h:X lo hi ls w w') {b o:Nat} {a:Option Addr} {n c:Nat} (h1:lo<=b) (h2:b<hi) (hc:w.cell? ⟨b,o,none⟩=some (.slice a n c)):w'.cell? ⟨b,o,none⟩=some (.slice a n c):=by
 obtain⟨v',h3,h4⟩:=h.md.cells b o _ h1 h2 hc;rw[h4.sl] at h3;exact h3
theorem X.Xt {lo hi:Nat} {ls:List (Addr × Value)} {w w':bf} (h:X lo hi ls w w') {b o:Nat} (h1:lo<=b) (h2:b<hi) (hc:w.frozen? ⟨b,o,none⟩=false):w'.frozen? ⟨b,o,none⟩=false:=(h.md.frz b o h1 h2).trans hc
def ElL {α:Type} (sz:Nat) (R:Nat->Nat->bf->Nat->Nat->List Value->α->Lf->Prop) (lo hi:Nat) (w:bf) (b off:Nat) (x:α) (l:Lf):Prop :=
 lo<=b∧b<hi∧∃cs,cs.length=sz∧(∀j (hj:j<cs.length),w.cell? ⟨b,off+j,none⟩=some cs[j]∧w.frozen? ⟨b,off+j,none⟩=false)∧R lo hi w b off cs x l
def Le {α:Type} (sz:Nat) (R:Nat->Nat->bf->Nat->Nat->List Value->α->Lf->Prop) (lo hi:Nat) (w:bf) (v:Value) (xs:List α) (l:Lf):Prop :=
 ∃a cap,∃lss:List Lf,v=.slice a xs.length cap∧Len xs.length∧lss.length=xs.length∧l=lss.flatten∧∀i (h:i<xs.length) (h':i<lss.length),∃b o,a=some ⟨b,o,none⟩∧ElL sz R lo hi w b (o+i*sz) xs[i] lss[i]
def aas {α:Type} (R:Nat->Nat->bf->Nat->Nat->List Value->α->Lf->Prop):Prop:=∀lo hi w w' b off cs cs' x l,Mk lo hi w w'->cs'.length=cs.length->(∀j (h:j<cs.length) (h':j<cs'.length),Kind2 cs[j] cs'[j])->R lo hi w b off cs x l->R lo hi w' b off cs' x l
theorem ElL.stays {α:Type} {sz:Nat} {R:Nat->Nat->bf->Nat->Nat->List Value->α->Lf->Prop} (hR:aas R) {lo hi:Nat} {w w':bf} {b off:Nat} {x:α} {l:Lf} (hm:Mk lo hi w w') (h:ElL sz R lo hi w b off x l):ElL sz R lo hi w' b off x l:=by
 obtain⟨h1,h2,cs,hl,hc,hr⟩:=h;refine⟨h1,h2,?_⟩
 obtain⟨cs',hl',hc'⟩:=aju sz (fun j v=>w'.cell? ⟨b,off+j,none⟩=some v∧∃u,cs[j]?=some u∧Kind2 u v) (fun j hj=>by
  obtain⟨v',h3,h4⟩:=hm.cells b (off+j) _ h1 h2 (hc j (by omega)).1;exact⟨v',h3,_,jy (by omega),h4⟩)
 refine⟨cs',hl',fun j hj=>⟨(hc' j hj).1,?_⟩,hR _ _ _ _ _ _ _ _ _ _ hm (by omega) (fun j h3 h4=>?_) hr⟩
 ·rw[hm.frz b _ h1 h2]
  exact(hc j (by omega)).2
 ·obtain⟨_,u,h5,h6⟩:=hc' j h4
  rw[jy h3] at h5;obtain rfl:cs[j]=u:=by simpa using h5
  exact h6
theorem Le.stays {α:Type} {sz:Nat} {R:Nat->Nat->bf->Nat->Nat->List Value->α->Lf->Prop} (hR:aas R) {lo hi:Nat} {w w':bf} {v:Value} {xs:List α} {l:Lf} (hm:Mk lo hi w w') (h:Le sz R lo hi w v xs l):Le sz R lo hi w' v xs l:=by
 obtain⟨a,cap,lss,h1,h2,h3,h4,h5⟩:=h;refine⟨a,cap,lss,h1,h2,h3,h4,fun i hi hi'=>?_⟩;obtain⟨b,o,h6,h7⟩:=h5 i hi hi';exact⟨b,o,h6,h7.stays hR hm⟩
theorem Le.shape {α:Type} {sz:Nat} {R:Nat->Nat->bf->Nat->Nat->List Value->α->Lf->Prop} {lo hi:Nat} {w:bf} {v:Value} {xs:List α} {l:Lf} (h:Le sz R lo hi w v xs l):∃a cap,v=.slice a xs.length cap:=by
 obtain⟨a,cap,lss,h1,_⟩:=h;exact⟨a,cap,h1⟩
theorem Le.same {α:Type} {sz:Nat} {R:Nat->Nat->bf->Nat->Nat->List Value->α->Lf->Prop} (hR:aas R) {lo hi:Nat} {w w':bf} {v v':Value} {xs:List α} {l:Lf} (hm:Mk lo hi w w') (hk:Kind2 v v') (h:Le sz R lo hi w v xs l):Le sz R lo hi w' v' xs l:=by
 have h9:=h.stays hR hm;obtain⟨a,cap,rfl⟩:=h.shape;rw[hk.sl];exact h9
def ae2 (_ _:Nat) (_:bf) (b o:Nat) (cs:List Value) (_:dh) (l:Lf):Prop:=(∃s,cs=[.string s])∧l=[(⟨b,o,none⟩,true)]
def ae3 (_ _:Nat) (_:bf) (b o:Nat) (cs:List Value) (_:Int) (l:Lf):Prop:=(∃x,cs=[.int .i64 x])∧l=[(⟨b,o,none⟩,false)]
def abk (_ _:Nat) (_:bf) (b o:Nat) (cs:List Value) (_:ku) (l:Lf):Prop:=(∃x y s,cs=[.int .i64 x,.int .i64 y,.string s])∧l=[(⟨b,o,none⟩,false),(⟨b,o+1,none⟩,false),(⟨b,o+2,none⟩,true)]
def ab1 (lo hi:Nat) (w:bf) (_ _:Nat) (cs:List Value) (x:List ku) (l:Lf):Prop:=∃v l0,cs=[v]∧Le 3 abk lo hi w v x l0∧l=l0
def abl (_ _:Nat) (_:bf) (b o:Nat) (cs:List Value) (_:jw) (l:Lf):Prop:=(∃s x,cs=[.string s,.int .i64 x])∧l=[(⟨b,o,none⟩,true),(⟨b,o+1,none⟩,false)]
def ain (lo hi:Nat) (w:bf) (b o:Nat) (cs:List Value) (t:lu) (l:Lf):Prop:=∃x s y v3 v4 v5 l3 l4 l5,cs=[.int .i64 x,.string s,.int .i64 y,v3,v4,v5]∧Le 1 ae2 lo hi w v3 t.ak l3∧Le 3 abk lo hi w v4 t.code l4∧Le 1 ab1 lo hi w v5 t.args l5∧l=[(⟨b,o,none⟩,false),(⟨b,o+1,none⟩,true),(⟨b,o+2,none⟩,false)]++l3++l4++l5
def aa0 (lo hi:Nat) (w:bf) (b o:Nat) (cs:List Value) (k:dw) (l:Lf):Prop:=∃s v1 v2 v3 v4 v5 v6 l1 l2 l3 l4 l5 l6,cs=[.string s,v1,v2,v3,v4,v5,v6]∧Le 2 abl lo hi w v1 k.ins l1∧Le 2 abl lo hi w v2 k.ak l2∧Le 1 ae2 lo hi w v3 k.iq l3∧Le 1 ae3 lo hi w v4 k.eu l4∧Le 1 ae3 lo hi w v5 k.au l5∧Le 6 ain lo hi w v6 k.body l6∧l=[(⟨b,o,none⟩,true)]++l1++l2++l3++l4++l5++l6
theorem aa2:aas ae2:=fun _ _ _ _ _ _ _ _ _ _ _ hl hk ⟨⟨s,h⟩,h2⟩=>by
 subst h;obtain⟨a',rfl,h3⟩:=aon hl hk;obtain⟨y,rfl⟩:=h3.str;exact⟨⟨_,rfl⟩,h2⟩
theorem aa3:aas ae3:=fun _ _ _ _ _ _ _ _ _ _ _ hl hk ⟨⟨s,h⟩,h2⟩=>by
 subst h;obtain⟨a',rfl,h3⟩:=aon hl hk;obtain⟨y,rfl⟩:=h3.int;exact⟨⟨_,rfl⟩,h2⟩
theorem Zd:aas abk:=fun _ _ _ _ _ _ _ _ _ _ _ hl hk ⟨⟨x,y,s,h⟩,h2⟩=>by
 subst h;obtain⟨a',b',c',rfl,h3,h4,h5⟩:=a9h hl hk;obtain⟨_,rfl⟩:=h3.int;obtain⟨_,rfl⟩:=h4.int;obtain⟨_,rfl⟩:=h5.str;exact⟨⟨_,_,_,rfl⟩,h2⟩
theorem ac9:aas ab1:=fun _ _ _ _ _ _ _ _ _ _ hm hl hk ⟨v,l0,h,h2,h3⟩=>by
 subst h;obtain⟨a',rfl,h4⟩:=aon hl hk;exact⟨_,_,rfl,h2.same Zd hm h4,h3⟩
theorem Ze:aas abl:=fun _ _ _ _ _ _ _ _ _ _ _ hl hk ⟨⟨x,y,h⟩,h2⟩=>by
 subst h;obtain⟨a',b',rfl,h3,h4⟩:=a9i hl hk;obtain⟨_,rfl⟩:=h3.str;obtain⟨_,rfl⟩:=h4.int;exact⟨⟨_,_,rfl⟩,h2⟩
theorem af9:aas ain:=fun _ _ _ _ _ _ _ _ _ _ hm hl hk ⟨x,s,y,v3,v4,v5,l3,l4,l5,h,g3,g4,g5,h2⟩=>by
 subst h;obtain⟨a',b',c',d',e',f',rfl,h3,h4,h5,h6,h7,h8⟩:=a9j hl hk;obtain⟨_,rfl⟩:=h3.int;obtain⟨_,rfl⟩:=h4.str;obtain⟨_,rfl⟩:=h5.int;exact⟨_,_,_,_,_,_,_,_,_,rfl,g3.same aa2 hm h6,g4.same Zd hm h7,g5.same ac9 hm h8,h2⟩
theorem ada:aas aa0:=fun _ _ _ _ _ _ _ _ _ _ hm hl hk ⟨s,v1,v2,v3,v4,v5,v6,l1,l2,l3,l4,l5,l6,h,g1,g2,g3,g4,g5,g6,h2⟩=>by
 subst h;obtain⟨a',b',c',d',e',f',i',rfl,h3,k1,k2,k3,k4,k5,k6⟩:=a9k hl hk;obtain⟨_,rfl⟩:=h3.str;exact⟨_,_,_,_,_,_,_,_,_,_,_,_,_,rfl,g1.same Ze hm k1,g2.same Ze hm k2,g3.same aa2 hm k3,g4.same aa3 hm k4,g5.same aa3 hm k5,g6.same af9 hm k6,h2⟩
theorem D8 (lss:List Lf) (q:Nat) (h:q<lss.length):(lss.take (q+1)).flatten=(lss.take q).flatten++lss[q]:=by
 rw[Fb h,Yy];simp
theorem O7 (lss:List Lf) (q:Nat):(lss.take q).flatten.length<=lss.flatten.length:=by
 have h:=mg (fun z=>(List.flatten z).length) (Pj q lss);simp only[Yy,je] at h;omega
theorem Me (lss:List Lf) (q:Nat) (h:lss.length<=q):(lss.take q).flatten=lss.flatten:=by rw[Qg h]
def aa4 (lo hi k r:Nat) (l:Lf) (w:bf) (e:Ending) (w':bf):Prop:=e=.returned (.int .i64 (r:Int))∧X lo hi (Je k l) w w'
def Held (k:Nat) (l:Lf) (w:bf):Prop:=∀i (h:i<l.length),w.cell? l[i].1=some (mkV l[i].2 (k+i))
theorem Held.left {k:Nat} {a b:Lf} {w:bf} (h:Held k (a++b) w):Held k a w:=fun i hi=>by
 have h9:=h i (by rw[je];omega);rw[Rh hi] at h9;exact h9
theorem Held.right {k:Nat} {a b:Lf} {w:bf} (h:Held k (a++b) w):Held (k+a.length) b w:=fun i hi=>by
 have h9:=h (a.length+i) (by rw[je];omega);rw[List.getElem_append_right (by omega)] at h9;simp only[Nat.add_sub_cancel_left] at h9;rw[h9,Nat.add_assoc]
theorem Held.below {k B:Nat} {l:Lf} {w w':bf} (h:Held k l w) (hb:Below B w w') (hl:∀p,p∈l->p.1.block<B):Held k l w':=fun i hi=>(hb.cell (hl _ (pz hi))).trans (h i hi)
theorem Held.at {k k':Nat} {l:Lf} {w:bf} (h:Held k l w) (e:k=k'):Held k' l w:=e▸h
theorem aag {k kq q:Nat} {lss:List Lf} {w:bf} (h:Held k lss.flatten w) (hq:q<lss.length) (hk:k+(lss.take q).flatten.length=kq):Held kq lss[q] w:=by
 have e:lss.flatten=((lss.take q).flatten++lss[q])++(lss.drop (q+1)).flatten:=by
  rw[←D8 _ _ hq,←Yy,Pj]
 rw[e] at h;have h2:=h.left.right;rw[hk] at h2;exact h2
theorem X.held {lo hi k:Nat} {l:Lf} {w w':bf} (h:X lo hi (Je k l) w w') (hn:(l.map Prod.fst).Nodup) (hc:∀p,p∈l->p.1.spot=none∧p.1.block<w.heap.size∧∃v,w.cell? p.1=some v):Held k l w':=by
 have key:∀(l:Lf) (k:Nat) (a:Addr) (v:Option Value),(l.map Prod.fst).Nodup->v.isSome=true->∀i (h:i<l.length),l[i].1=a->apW (Je k l) a v=some (mkV l[i].2 (k+i)):=by
  intro l
  induction l with
  | nil=>intro k a v _ _ i h;exact absurd h (yt _)
  | cons p l ih =>
   intro k a v hn hv i hi he;obtain⟨x,t⟩:=p;show apW (Je (k+1) l) a (if x=a then v.map (fun _=>mkV t k) else v)=_;simp only[Ap,List.nodup_cons] at hn
   cases i with
   | zero =>
    simp only[ny] at he ⊢;subst he;rw[gu rfl,a0i]
    ·obtain⟨u,rfl⟩:=Option.isSome_iff_exists.1 hv
     rfl
    ·intro q hq e9
     refine hn.1 ?_;rw[←e9]
     have:∀(l:Lf) (k:Nat) q,q∈Je k l->q.1∈l.map Prod.fst:=by
      intro l
      induction l with
      | nil=>intro k q hq;cases hq
      | cons p l ih =>
       intro k q hq;rcases ql.1 hq with rfl|h9
       ·exact H7 ..
       ·exact G8 _ (ih _ _ h9)
     exact this l _ q hq
   | succ i =>
    simp only[o8] at he ⊢;have hne:x≠a:=fun e9=>hn.1 (by rw[e9,←he];exact List.mem_map_of_mem (pz _))
    rw[ay hne,ih (k+1) a v hn.2 hv i (by simpa using hi) he];congr 2;omega
 intro i hi;obtain⟨h1,h2,v,h3⟩:=hc _ (pz hi);obtain⟨⟨⟨b,o,p⟩,t⟩,hp⟩:∃q,q=l[i]:=⟨_,rfl⟩;rw[←hp] at h1 h2 h3;simp only at h1 h2 h3;subst h1;have h9:=key l k ⟨b,o,none⟩ (w.cell? ⟨b,o,none⟩) hn (by rw[h3];rfl) i hi (by rw[←hp]);rw[show l[i].1=⟨b,o,none⟩ from by rw[←hp],h.wr b o h2,h9]
def Good (bs:List Nat) (l:Lf) (w:bf):Prop:=(l.map Prod.fst).Nodup∧∀p,p∈l->p.1.spot=none∧p.1.block∈bs∧∃v,w.cell? p.1=some v
def Ro (b o sz:Nat) (bs:List Nat) (l:Lf) (w:bf):Prop:=(l.map Prod.fst).Nodup∧∀p,p∈l->p.1.spot=none∧((p.1.block=b∧o<=p.1.off∧p.1.off<o+sz)∨(p.1.block∈bs∧∃v,w.cell? p.1=some v))
theorem aw0 {β:Type} (n:Nat) (P:Nat->β->Prop) (h:∀j,j<n->∃v,P j v):∃cs:List β,cs.length=n∧∀j (hj:j<cs.length),P j cs[j]:=by
 induction n with
 | zero=>exact⟨[],rfl,fun j hj=>absurd hj (yt _)⟩
 | succ n ih =>
  obtain⟨cs,hl,hc⟩:=ih (fun j hj=>h j (by omega));obtain⟨v,hv⟩:=h n (by omega);refine⟨cs++[v],by simp[hl],fun j hj=>?_⟩
  by_cases e:j<cs.length
  ·rw[Rh e]
   exact hc j e
  ·have e2:j=cs.length:=by simp at hj;omega
   subst e2;rw[List.getElem_append_right (gq _)];simp only[Nat.sub_self,ny];rw[hl];exact hv
theorem aw1 {subs:List (List Nat)} (h:subs.flatten.Nodup) {i j:Nat} (hi:i<subs.length) (hj:j<subs.length) (hne:i≠j) {x:Nat} (h1:x∈subs[i]) (h2:x∈subs[j]):False:=by
 have hp:=(List.pairwise_flatten.1 h).2;rw[List.pairwise_iff_getElem] at hp;rcases Nat.lt_or_gt_of_ne hne with c|c
 ·exact hp i j hi hj c x h1 x h2 rfl
 ·exact hp j i hj hi c x h2 x h1 rfl
theorem ara {α:Type} {sz:Nat} {L:Nat->Nat->bf->Nat->Nat->List Value->α->Lf->Prop} {lo hi:Nat} {w:bf} {g cap:Nat} {xs:List α} {subs:List (List Nat)} {cells:Nat->List Value} (hlo:lo<=g) (hhi:g<hi) (hn:Len xs.length)
  (hcell:∀i,i<xs.length->(cells i).length=sz∧∀j (hj:j<(cells i).length),w.cell? ⟨g,i*sz+j,none⟩=some (cells i)[j]∧w.frozen? ⟨g,i*sz+j,none⟩=false)
  (hl:subs.length=xs.length) (hE:∀i (h:i<xs.length) (h':i<subs.length),∃l,L lo hi w g (i*sz) (cells i) xs[i] l∧Ro g (i*sz) sz subs[i] l w) (hnd:(g::subs.flatten).Nodup) :
  ∃l,Le sz L lo hi w (.slice (some ⟨g,0,none⟩) xs.length cap) xs l∧Good (g::subs.flatten) l w:=by
 obtain⟨lss,hls,hp⟩:=aw0 xs.length (fun i l=>∃(h:i<xs.length) (h':i<subs.length),L lo hi w g (i*sz) (cells i) xs[i] l∧Ro g (i*sz) sz subs[i] l w) (fun i hi=>by
  obtain⟨l,h1,h2⟩:=hE i hi (by omega);exact⟨l,hi,by omega,h1,h2⟩)
 obtain⟨hg,hsn⟩:=List.nodup_cons.1 hnd;refine⟨lss.flatten,⟨_,cap,lss,rfl,hn,hls,rfl,fun i h h'=>⟨g,0,rfl,hlo,hhi,cells i,(hcell i h).1,fun j hj=>?_,?_⟩⟩,?_,fun p hpm=>?_⟩
 ·rw[Bh]
  exact(hcell i h).2 j hj
 ·rw[Bh]
  obtain⟨_,_,h1,_⟩:=hp i h';exact h1
 ·rw[List.map_flatten]
  unfold List.Nodup;rw[List.pairwise_flatten];refine⟨fun l U1=>?_,?_⟩
  ·obtain⟨l0,h0,rfl⟩:=List.mem_map.1 U1
   obtain⟨i,hi9,rfl⟩:=List.mem_iff_getElem.1 h0;obtain⟨_,_,_,h2⟩:=hp i hi9;exact h2.1
  ·rw[List.pairwise_iff_getElem]
   intro i j hi9 hj9 hij x hx y hy exy;rw[Ad] at hi9 hj9;rw[List.getElem_map] at hx hy;subst exy;obtain⟨p1,hp1,e1⟩:=List.mem_map.1 hx;obtain⟨p2,hp2,e2⟩:=List.mem_map.1 hy;obtain⟨h1i,h1s,_,h1⟩:=hp i hi9;obtain⟨h2i,h2s,_,h2⟩:=hp j hj9;have k1:=(h1.2 p1 hp1).2;have k2:=(h2.2 p2 hp2).2;rw[e1] at k1;rw[e2] at k2;rcases k1 with ⟨c1,c2,c3⟩|⟨c1,_⟩
   ·rcases k2 with ⟨d1,d2,d3⟩|⟨d1,_⟩
    ·have:i*sz+sz<=j*sz:=by
      have h9:=Nat.mul_le_mul_right sz (show i+1<=j from hij);rw[Nat.add_mul] at h9;omega
     omega
    ·exact hg (by rw[←c1];exact List.mem_flatten.2 ⟨_,pz h2s,d1⟩)
   ·rcases k2 with ⟨d1,d2,d3⟩|⟨d1,_⟩
    ·exact hg (by rw[←d1];exact List.mem_flatten.2 ⟨_,pz h1s,c1⟩)
    ·exact aw1 hsn h1s h2s (by omega) c1 d1
 ·obtain⟨l0,h0,hpl⟩:=List.mem_flatten.1 hpm
  obtain⟨i,hi9,rfl⟩:=List.mem_iff_getElem.1 h0;obtain⟨h1i,h1s,_,h1⟩:=hp i hi9;obtain⟨k0,k1⟩:=h1.2 p hpl;refine⟨k0,?_⟩;rcases k1 with ⟨c1,c2,c3⟩|⟨c1,c2⟩
  ·refine⟨by rw[c1];exact H7 ..,?_⟩
   obtain⟨q1,q2⟩:=hcell i h1i;obtain⟨⟨b,o,sp⟩,t⟩:=p;simp only at c1 c2 c3 k0;subst c1 k0;have h9:=(q2 (o-i*sz) (by omega)).1;rw[show i*sz+(o-i*sz)=o from by omega] at h9;exact⟨_,h9⟩
  ·exact⟨G8 _ (List.mem_flatten.2 ⟨_,pz h1s,c1⟩),c2⟩
theorem arb {α:Type} {sz:Nat} (L:Nat->Nat->bf->Nat->Nat->List Value->α->Lf->Prop) (lo hi:Nat) (w:bf) (a:Option Addr) (cap:Nat) (bs:List Nat):∃l,Le sz L lo hi w (.slice a 0 cap) ([]:List α) l∧Good bs l w :=
 ⟨[],⟨a,cap,[],rfl,by simp[Len],rfl,rfl,fun i h=>absurd h (yt _)⟩,List.nodup_nil,fun p hp=>by cases hp⟩
theorem Ub.lat {α:Type} {E:F6 Tryz.prog α} {ok:α->Prop} {L:Nat->Nat->bf->Nat->Nat->List Value->α->Lf->Prop} {lo hi:Nat} {w:bf} {v:Value} {xs:List α} {bs:List Nat} (h:Ub E ok w v xs bs) (hb:∀b,b∈bs->lo<=b∧b<hi) (hL:∀x b o,∃l,L lo hi w b o (E.f x) x l∧Ro b o E.sz [] l w):∃l,Le E.sz L lo hi w v xs l∧Good bs l w:=by
 obtain⟨h1,h2,h3,rfl⟩:=h;rcases h1.ae4 with ⟨a,cap,rfl,rfl⟩|⟨g,cap,rfl,hc⟩
 ·exact arb _ _ _ _ _ _ _
 ·have hg:=hb g (Ce.2 rfl)
  have hrep:(List.replicate xs.length ([]:List Nat)).flatten=[]:=by simp
  have hn:Len xs.length:=jq (Xe _ E.hby) h3
  have h9:=ara (L:=L) (lo:=lo) (hi:=hi) (w:=w) (g:=g) (cap:=cap) (xs:=xs) (subs:=List.replicate xs.length []) (cells:=fun i=>if h:i<xs.length then E.f xs[i] else []) (sz:=E.sz) hg.1 hg.2 hn (fun i hi9=>by
   simp only[dif_pos hi9]
   exact⟨E.hf _,fun j hj=>hc i hi9 j hj⟩) (by simp) (fun i hi9 hi8=>by
   simp only[dif_pos hi9,List.getElem_replicate];exact hL _ _ _) (by rw[hrep];simp)
  rw[hrep] at h9;exact h9
theorem aah.lat {α:Type} {sz:Nat} {E:F6 Tryz.prog (Raw sz)} (hE:E.sz=sz) (hf:∀c,E.f c=c.1) {R:bf->List Value->α->List Nat->Prop} {L:Nat->Nat->bf->Nat->Nat->List Value->α->Lf->Prop} {lo hi:Nat} {w:bf} {v:Value} {xs:List α} {bs:List Nat} (h:aah E R w v xs bs) (hnd:bs.Nodup) (hb:∀b,b∈bs->lo<=b∧b<hi)
  (hL:∀cs x s b o,R w cs x s->s.Nodup->(∀c,c∈s->lo<=c∧c<hi)->b∉s->∃l,L lo hi w b o cs x l∧Ro b o sz s l w):∃l,Le sz L lo hi w v xs l∧Good bs l w:=by
 obtain⟨css,subs,h1,h2,h3,rfl⟩:=h;have hl3:=h3.len;rcases h1.ae4 with ⟨a,cap,rfl,rfl⟩|⟨g,cap,rfl,hc⟩
 ·obtain rfl:xs=[]:=Qe hl3.1.symm
  exact arb _ _ _ _ _ _ _
 ·have eb:zx (.slice (some ⟨g,0,none⟩) css.length cap)++subs.flatten=g::subs.flatten:=rfl
  rw[eb] at hnd hb ⊢;have hg:=hb g (H7 ..);have hn:Len xs.length:=by rw[←hl3.1];exact jq (Xe _ E.hby) h2
  have hsn:=(List.nodup_cons.1 hnd).2;rw[hl3.1];refine ara (cells:=fun i=>if h:i<css.length then css[i].1 else []) hg.1 hg.2 hn (fun i hi9=>?_) hl3.2 (fun i hi9 hi8=>?_) hnd
  ·have hi7:i<css.length:=by omega
   simp only[dif_pos hi7];refine⟨css[i].2.1,fun j hj=>?_⟩;have h9:=hc i hi7 j (by rw[hf];exact hj);simp only[hf,hE] at h9;exact h9
  ·have hi7:i<css.length:=by omega
   simp only[dif_pos hi7];have hs:∀c,c∈subs[i]->c∈subs.flatten:=fun c hc9=>List.mem_flatten.2 ⟨_,pz hi8,hc9⟩
   exact hL _ _ _ _ _ (h3.get i hi7 hi9 hi8) ((List.pairwise_flatten.1 hsn).1 _ (pz hi8)) (fun c hc9=>hb c (G8 _ (hs c hc9))) (fun h9=>(List.nodup_cons.1 hnd).1 (hs g h9))
theorem Wp {b o sz:Nat} {bs:List Nat} {l:Lf} {w:bf} (h1:(l.map Prod.fst).Nodup) (h2:∀p,p∈l->p.1.spot=none∧p.1.block=b∧o<=p.1.off∧p.1.off<o+sz):Ro b o sz bs l w:=⟨h1,fun p hp=>⟨(h2 p hp).1,Or.inl (h2 p hp).2⟩⟩
theorem Rq {b o sz:Nat} {bs bs':List Nat} {l l':Lf} {w:bf} (h:Ro b o sz bs l w) (k:Good bs' l' w) (hb:b∉bs') (hd:∀x,x∈bs->x∉bs'):Ro b o sz (bs++bs') (l++l') w:=by
 refine⟨?_,fun p hp=>?_⟩
 ·rw[Il,List.nodup_append]
  refine⟨h.1,k.1,fun x hx y hy e=>?_⟩;subst e;obtain⟨p,hp,e1⟩:=List.mem_map.1 hx;obtain⟨q,hq,e2⟩:=List.mem_map.1 hy;have h1:=(h.2 p hp).2;have h2:=(k.2 q hq).2.1;rw[e1] at h1;rw[e2] at h2;rcases h1 with ⟨c,_⟩|⟨c,_⟩
  ·rw[c] at h2;exact hb h2
  ·exact hd _ c h2
 ·rcases Ec.1 hp with h9|h9
  ·obtain⟨a1,a2⟩:=h.2 p h9
   exact⟨a1,a2.imp id fun⟨a3,a4⟩=>⟨List.mem_append_left _ a3,a4⟩⟩
  ·obtain⟨a1,a2,a3⟩:=k.2 p h9
   exact⟨a1,Or.inr ⟨List.mem_append_right _ a2,a3⟩⟩
theorem a9l (lo hi:Nat) (w:bf) (x:dh) (b o:Nat):∃l,ae2 lo hi w b o (ni.f x) x l∧Ro b o 1 [] l w :=
 ⟨[(⟨b,o,none⟩,true)],⟨⟨x,rfl⟩,rfl⟩,Wp (by simp) (fun p hp=>by rw[yj] at hp;subst hp;exact⟨rfl,rfl,gq _,by simp⟩)⟩
theorem a9m (lo hi:Nat) (w:bf) (x:Int) (b o:Nat):∃l,ae3 lo hi w b o (Xy.f x) x l∧Ro b o 1 [] l w :=
 ⟨[(⟨b,o,none⟩,false)],⟨⟨x,rfl⟩,rfl⟩,Wp (by simp) (fun p hp=>by rw[yj] at hp;subst hp;exact⟨rfl,rfl,gq _,by simp⟩)⟩
theorem a3t (lo hi:Nat) (w:bf) (x:ku) (b o:Nat):∃l,abk lo hi w b o (Gx.f x) x l∧Ro b o 3 [] l w:=by
 refine⟨[(⟨b,o,none⟩,false),(⟨b,o+1,none⟩,false),(⟨b,o+2,none⟩,true)],⟨⟨_,_,_,rfl⟩,rfl⟩,Wp (by simp) (fun p hp=>?_)⟩;simp only[ql,xg,xk] at hp;rcases hp with rfl|rfl|rfl<;>exact⟨rfl,rfl,by simp,by simp⟩
theorem slotL (lo hi:Nat) (w:bf) (x:jw) (b o:Nat):∃l,abl lo hi w b o (Gh.f x) x l∧Ro b o 2 [] l w:=by
 refine⟨[(⟨b,o,none⟩,true),(⟨b,o+1,none⟩,false)],⟨⟨_,_,rfl⟩,rfl⟩,Wp (by simp) (fun p hp=>?_)⟩;simp only[ql,xg,xk] at hp;rcases hp with rfl|rfl<;>exact⟨rfl,rfl,by simp,by simp⟩
theorem Good.bci {b o sz:Nat} {bs:List Nat} {l:Lf} {w:bf} (h:Good bs l w):Ro b o sz bs l w:=⟨h.1,fun p hp=>⟨(h.2 p hp).1,Or.inr (h.2 p hp).2⟩⟩
theorem a9n {lo hi:Nat} {w:bf} {cs:List Value} {x:List ku} {s:List Nat} {b o:Nat} (h:adu w cs x s) (hb:∀c,c∈s->lo<=c∧c<hi):∃l,ab1 lo hi w b o cs x l∧Ro b o 1 s l w:=by
 obtain⟨v,h1,h2⟩:=h;obtain⟨l,h3,h4⟩:=h2.lat (L:=abk) hb (fun x b o=>a3t lo hi w x b o);exact⟨l,⟨v,l,h1,h3,rfl⟩,h4.bci⟩
theorem X9 {a b:List Nat} (h:(a++b).Nodup):a.Nodup∧b.Nodup∧∀x,x∈a->x∉b:=by
 rw[List.nodup_append] at h;exact⟨h.1,h.2.1,fun x h1 h2=>h.2.2 x h1 x h2 rfl⟩
theorem bdw {lo hi:Nat} {w:bf} {cs:List Value} {x:lu} {s:List Nat} {b o:Nat} (h:Y6 w cs x s) (hnd:s.Nodup) (hb:∀c,c∈s->lo<=c∧c<hi) (hbs:b∉s):∃l,ain lo hi w b o cs x l∧Ro b o 6 s l w:=by
 obtain⟨ov,cv,av,b1,b2,b3,h1,h2,h3,h4,h5,h6,h7,rfl⟩:=h;obtain⟨n12,n3,d3⟩:=X9 hnd;obtain⟨n1,n2,d2⟩:=X9 n12;obtain⟨l1,p1,q1⟩:=h5.lat (L:=ae2) (fun c hc=>hb c (by simp[hc])) (fun x b o=>a9l lo hi w x b o);obtain⟨l2,p2,q2⟩:=h6.lat (L:=abk) (fun c hc=>hb c (by simp[hc])) (fun x b o=>a3t lo hi w x b o);obtain⟨l3,p3,q3⟩:=h7.lat rfl (fun _=>rfl) (L:=ab1) n3 (fun c hc=>hb c (by simp[hc])) (fun cs x s b o hr _ hs _=>a9n hr hs)
 have e0:Ro b o 6 [] [((⟨b,o,none⟩:Addr),false),(⟨b,o+1,none⟩,true),(⟨b,o+2,none⟩,false)] w:=Wp (by simp) (fun p hp=>by
  simp only[ql,xg,xk] at hp;rcases hp with rfl|rfl|rfl<;>exact⟨rfl,rfl,by simp,by simp⟩)
 have e1:=Rq e0 q1 (fun h9=>hbs (by simp[h9])) (fun x hx=>by cases hx);have e2:=Rq e1 q2 (fun h9=>hbs (by simp[h9])) (fun x hx=>d2 x (by simpa using hx));have e3:=Rq e2 q3 (fun h9=>hbs (by simp[h9])) (fun x hx=>d3 x (by simpa using hx));exact⟨_,⟨_,_,_,_,_,_,l1,l2,l3,h1,p1,p2,p3,rfl⟩,by simpa using e3⟩
theorem a9o {lo hi:Nat} {w:bf} {cs:List Value} {x:dw} {s:List Nat} {b o:Nat} (h:Dj w cs x s) (hnd:s.Nodup) (hb:∀c,c∈s->lo<=c∧c<hi) (hbs:b∉s):∃l,aa0 lo hi w b o cs x l∧Ro b o 7 s l w:=by
 obtain⟨v1,v2,v3,v4,v5,v6,b1,b2,b3,b4,b5,b6,h0,hn,h1,h2,h3,h4,h5,h6,rfl⟩:=h;obtain⟨n5,n6,d6⟩:=X9 hnd;obtain⟨n4,_,d5⟩:=X9 n5;obtain⟨n3,_,d4⟩:=X9 n4;obtain⟨n2,_,d3⟩:=X9 n3;obtain⟨n1,_,d2⟩:=X9 n2;obtain⟨l1,p1,q1⟩:=h1.lat (L:=abl) (fun c hc=>hb c (by simp[hc])) (fun x b o=>slotL lo hi w x b o);obtain⟨l2,p2,q2⟩:=h2.lat (L:=abl) (fun c hc=>hb c (by simp[hc])) (fun x b o=>slotL lo hi w x b o);obtain⟨l3,p3,q3⟩:=h3.lat (L:=ae2) (fun c hc=>hb c (by simp[hc])) (fun x b o=>a9l lo hi w x b o);obtain⟨l4,p4,q4⟩:=h4.lat (L:=ae3) (fun c hc=>hb c (by simp[hc])) (fun x b o=>a9m lo hi w x b o);obtain⟨l5,p5,q5⟩:=h5.lat (L:=ae3) (fun c hc=>hb c (by simp[hc])) (fun x b o=>a9m lo hi w x b o);obtain⟨l6,p6,q6⟩:=h6.lat rfl (fun _=>rfl) (L:=ain) n6 (fun c hc=>hb c (by simp[hc])) (fun cs x s b o hr h8 hs h9=>bdw hr h8 hs h9)
 have e0:Ro b o 7 [] [((⟨b,o,none⟩:Addr),true)] w:=Wp (by simp) (fun p hp=>by
  rw[yj] at hp;subst hp;exact⟨rfl,rfl,by simp,by simp⟩)
 have e1:=Rq e0 q1 (fun h9=>hbs (by simp[h9])) (fun x hx=>by cases hx);have e2:=Rq e1 q2 (fun h9=>hbs (by simp[h9])) (fun x hx=>d2 x (by simpa using hx));have e3:=Rq e2 q3 (fun h9=>hbs (by simp[h9])) (fun x hx=>d3 x (by simpa using hx));have e4:=Rq e3 q4 (fun h9=>hbs (by simp[h9])) (fun x hx=>d4 x (by simpa using hx));have e5:=Rq e4 q5 (fun h9=>hbs (by simp[h9])) (fun x hx=>d5 x (by simpa using hx));have e6:=Rq e5 q6 (fun h9=>hbs (by simp[h9])) (fun x hx=>d6 x (by simpa using hx));exact⟨_,⟨_,_,_,_,_,_,_,l1,l2,l3,l4,l5,l6,h0,p1,p2,p3,p4,p5,p6,rfl⟩,by simpa using e6⟩
theorem a9p {lo hi:Nat} {w:bf} {v:Value} {ks:List dw} {bs:List Nat} (h:aah Fa Dj w v ks bs) (hnd:bs.Nodup) (hb:∀c,c∈bs->lo<=c∧c<hi):∃l,Le 7 aa0 lo hi w v ks l∧Good bs l w :=
 h.lat rfl (fun _=>rfl) hnd hb (fun cs x s b o hr h8 hs h9=>a9o hr h8 hs h9)
def yh {α:Type} {sz:Nat} (E:F6 Tryz.prog (Raw sz)) (R:bf->List Value->α->List Nat->Prop) (B:Nat) (w:bf) (v:Value) (xs:List α) (bs:List Nat):Prop :=
 ∃(css:List (Raw sz)) (subs:List (List Nat)),jm E w B v css∧css.length*E.qy<=140737488355328∧Na (fun c x s=>R w c.1 x s) css xs subs∧bs=zx v++subs.flatten∧bs.Nodup∧∀b,b∈bs->B<=b∧b<w.heap.size
theorem yh.nil {α:Type} {sz:Nat} (E:F6 Tryz.prog (Raw sz)) (R:bf->List Value->α->List Nat->Prop) (B:Nat) (w:bf):yh E R B w (.slice none 0 0) [] [] :=
 ⟨[],[],jm.nil _ _,by simp,.nil,rfl,List.nodup_nil,fun b hb=>by cases hb⟩
theorem yh.rowT {α:Type} {sz:Nat} {E:F6 Tryz.prog (Raw sz)} {R:bf->List Value->α->List Nat->Prop} {B:Nat} {w:bf} {v:Value} {xs:List α} {bs:List Nat} (h:yh E R B w v xs bs):aah E R w v xs bs:=by
 obtain⟨css,subs,h1,h2,h3,h4,_⟩:=h;exact⟨css,subs,h1.low (jg _),h2,h3,h4⟩
theorem yh.slice {α:Type} {sz:Nat} {E:F6 Tryz.prog (Raw sz)} {R:bf->List Value->α->List Nat->Prop} {B:Nat} {w:bf} {v:Value} {xs:List α} {bs:List Nat} (h:yh E R B w v xs bs):∃a cap,v=.slice a xs.length cap:=by
 obtain⟨css,subs,h1,h2,h3,_⟩:=h;rw[←h3.len.1];exact h1.slice
theorem yh.nd {α:Type} {sz:Nat} {E:F6 Tryz.prog (Raw sz)} {R:bf->List Value->α->List Nat->Prop} {B:Nat} {w:bf} {v:Value} {xs:List α} {bs:List Nat} (h:yh E R B w v xs bs):bs.Nodup∧∀b,b∈bs->B<=b∧b<w.heap.size:=by
 obtain⟨css,subs,_,_,_,_,h1,h2⟩:=h;exact⟨h1,h2⟩
theorem yh.fr {α:Type} {sz:Nat} {E:F6 Tryz.prog (Raw sz)} {R:bf->List Value->α->List Nat->Prop} (hR:aky R) {B:Nat} {w w':bf} {v:Value} {xs:List α} {bs:List Nat} (h:yh E R B w v xs bs) (hf:Fr bs w w') (hz:w.heap.size<=w'.heap.size):yh E R B w' v xs bs:=by
 obtain⟨css,subs,h1,h2,h3,rfl,h4,h5⟩:=h;exact⟨css,subs,h1.Ii (fun b hb=>hf b (List.mem_append_left _ (Ce.2 hb))),h2,h3.mono (fun c x s _ _ hs h9=>hR _ _ _ _ _ h9 (fun b hb=>hf b (List.mem_append_right _ (List.mem_flatten.2 ⟨s,hs,hb⟩)))),rfl,h4,fun b hb=>⟨(h5 b hb).1,qj (h5 b hb).2 hz⟩⟩
theorem ajk {α:Type} {sz:Nat} {E:F6 Tryz.prog (Raw sz)} {R:bf->List Value->α->List Nat->Prop} (hR:aky R) {B:Nat} {w:bf} {v:Value} {css:List (Raw sz)} {ys:List α} {subs:List (List Nat)} (ho:jm E w B v css) (h3:Na (fun c x s=>R w c.1 x s) css ys subs) (hn:(zx v++subs.flatten).Nodup) (hb:∀b,b∈zx v++subs.flatten->B<=b∧b<w.heap.size)
  {w1 wA w5:bf} (h1:Below w.heap.size w w1) (hA:Below w1.heap.size w1 wA) {c:Raw sz} {y:α} {s:List Nat} (hc:R w1 c.1 y s) (hs:s.Nodup) (hsb:∀b,b∈s->w.heap.size<=b∧b<w1.heap.size) (hBw:B<=w.heap.size) {v':Value} (yc:jm E w5 B v' (css++[c])) (hg5:wA.grownBy w5 v.ownBlock) (Gm:∀b,v'.ownBlock=some b->v.ownBlock=some b∨wA.heap.size<=b) (hl:(css++[c]).length*E.qy<=140737488355328) :
  yh E R B w5 v' (ys++[y]) (zx v'++(subs++[s]).flatten):=by
 have hz1:=h1.size;have hzA:=hA.size;have O6:=hg5.size
 obtain⟨hn1,hn2,hn3⟩:(zx v).Nodup∧subs.flatten.Nodup∧∀x,x∈zx v->x∉subs.flatten:=by
  rw[List.nodup_append] at hn;exact⟨hn.1,hn.2.1,fun x g1 g2=>hn.2.2 x g1 x g2 rfl⟩
 have e9:(subs++[s]).flatten=subs.flatten++s:=by simp
 have hsub:∀b,b∈subs.flatten->B<=b∧b<w.heap.size:=fun b yu=>hb b (List.mem_append_right _ yu)
 have a9q:∀b,v.ownBlock=some b->b<w.heap.size:=fun b yu=>(hb b (List.mem_append_left _ (Ce.2 yu))).2
 have hold:∀b,b<w.heap.size->v.ownBlock≠some b->w5.heap[b]?=w.heap[b]?:=fun b yu hne=>(hg5.block b (by omega) (fun e=>hne e.symm)).trans ((hA.block b (by omega)).trans (h1.block b yu))
 refine⟨css++[c],subs++[s],yc,hl,(h3.mono (fun c x s' _ _ hs' h9=>hR _ _ _ _ _ h9 (fun b yu=>?_))).app (.cons (hR _ _ _ _ _ hc (fun b yu=>?_)) .nil),rfl,?_,?_⟩
 ·have hm:b∈subs.flatten:=List.mem_flatten.2 ⟨s',hs',yu⟩
  exact hold b (hsub b hm).2 (fun e=>hn3 b (Ce.2 e) hm)
 ·have h9:=hsb b yu
  exact(hg5.block b (by omega) (fun e=>by have:=a9q b e.symm;omega)).trans (hA.block b h9.2)
 ·rw[e9,List.nodup_append,List.nodup_append]
  refine⟨?_,⟨hn2,hs,fun x g1 y9 g2 e=>?_⟩,fun x g1 y9 g2 e=>?_⟩
  ·unfold zx
   cases v'.ownBlock<;>simp
  ·subst e
   have:=(hsub x g1).2;have:=(hsb x g2).1;omega
  ·subst e
   rcases Gm x (Ce.1 g1) with g3|g3
   ·rcases Ec.1 g2 with g4|g4
    ·exact hn3 x (Ce.2 g3) g4
    ·have:=a9q x g3
     have:=(hsb x g4).1;omega
   ·rcases Ec.1 g2 with g4|g4
    ·have:=(hsub x g4).2
     omega
    ·have:=(hsb x g4).2
     omega
 ·intro b yu
  rw[e9] at yu;rcases Ec.1 yu with g1|g1
  ·have h9:=Bd yc b (Ce.1 g1)
   exact h9
  ·rcases Ec.1 g1 with g2|g2
   ·have:=hsub b g2
    exact⟨this.1,by omega⟩
   ·have:=hsb b g2
    exact⟨by omega,by omega⟩
theorem Ya {l:List Nat}:l.Nodup↔∀x,l.count x<=1:=by
 constructor
 ·intro h x
  induction l with
  | nil=>simp
  | cons a l ih =>
   obtain⟨h1,h2⟩:=List.nodup_cons.1 h;rw[List.count_cons]
   by_cases c:a=x
   ·subst c
    rw[List.count_eq_zero.2 h1];simp
   ·have:(a == x)=false:=by rw[su];exact c
    rw[this];have:=ih h2;simpa using this
 ·intro h
  induction l with
  | nil=>exact List.nodup_nil
  | cons a l ih =>
   refine List.nodup_cons.2 ⟨fun hm=>?_,ih (fun x=>?_)⟩
   ·have h9:=h a
    rw[List.count_cons_self] at h9;have:=List.count_pos_iff.2 hm;omega
   ·have h9:=h x
    rw[List.count_cons] at h9;omega
theorem Nj {l:List Nat} {x:Nat}:x∈l↔1<=l.count x:=by
 rw[←List.count_pos_iff];exact Iff.rfl
theorem ard (v:Value) (x:Nat):(zx v).count x<=1:=Ya.1 (by unfold zx;cases v.ownBlock<;>simp) x
theorem a4z {lv lv':Value} {n:Nat} (hn:∀b,lv'.ownBlock=some b->lv.ownBlock=some b∨n<=b) (x:Nat) (hx:x<n):(zx lv').count x<=(zx lv).count x:=by
 by_cases h:x∈zx lv'
 ·rcases hn x (Ce.1 h) with h9|h9
  ·have h1:=Nj.1 (Ce.2 h9)
   have h2:=ard lv' x;omega
  ·omega
 ·rw[List.count_eq_zero.2 h]
  exact jg _
theorem a9r {l:List Nat} {n x:Nat} (h:∀b,b∈l->b<n) (hx:n<=x):l.count x=0:=List.count_eq_zero.2 (fun hm=>by have:=h x hm;omega)
theorem aw2 {sz:Nat} (u:Value) (k:Nat) (hk:k<sz) (c':Raw sz):∀(cs:List (Raw sz)) (i:Nat) (hi:i<cs.length),c'.1=cs[i].1.set k u->(cs.flatMap (fun c=>c.1)).set (i*sz+k) u=(cs.set i c').flatMap (fun c=>c.1):=by
 intro cs
 induction cs with
 | nil=>intro i hi;exact absurd hi (yt _)
 | cons c cs ih =>
  intro i hi hc;have hl:c.1.length=sz:=c.2.1
  cases i with
  | zero =>
   simp only[ny] at hc;simp only[List.flatMap_cons,List.set_cons_zero,Nat.zero_mul,Bh];rw[List.set_append_left _ _ (by omega),hc]
  | succ i =>
   simp only[o8] at hc;simp only[List.flatMap_cons,List.set_cons_succ];have e9:(i+1)*sz+k-c.1.length=i*sz+k:=by rw[Nat.succ_mul];omega
   rw[List.set_append_right _ _ (by rw[Nat.succ_mul];omega),e9,ih i (by simpa using hi) hc]
theorem aoo {w:bf} {B g cap:Nat} {cs:List (Raw 7)} (h:jm Fa w B (.slice (some ⟨g,0,none⟩) cs.length cap) cs) (i k:Nat) (hi:i<cs.length) (hk:k<7) (u:Value) (c':Raw 7) (hc:c'.1=cs[i].1.set k u) :
  jm Fa (w.setCell ⟨g,i*7+k,none⟩ u) B (.slice (some ⟨g,0,none⟩) cs.length cap) (cs.set i c'):=by
 obtain⟨h1,h2⟩:=h;rcases h2 with ⟨hv,_⟩|⟨g',cap',cur,hv,hg,hh,hn,hm,hs,ht⟩
 ·cases hv
 ·simp only[qw,uo,Addr.mk.injEq] at hv
  obtain⟨⟨rfl,_⟩,_,rfl⟩:=hv;have hb:jc w g Fa.T cur:=hh;have hb2:=hb.set (i*7+k) u;have hfl:=aw2 u k hk c' cs i hi hc;refine⟨?_,Or.inr ⟨g,cap,cur.setIfInBounds (i*7+k) u,by rw[List.length_set],hg,hb2,by rw[List.length_set];exact hn,hm,by rw[Array.size_setIfInBounds];exact hs,?_⟩⟩
  ·have h9:(cs.set i c').flatMap Fa.f=(cs.flatMap Fa.f).set (i*7+k) u:=hfl.symm
   rw[h9,List.length_set,List.length_set];exact h1
  ·have h9:(cs.set i c').flatMap Fa.f=(cs.flatMap Fa.f).set (i*7+k) u:=hfl.symm
   rw[h9,←ht,Array.toList_setIfInBounds,List.length_set,List.take_set]
theorem Na.set {α β γ:Type} {R:α->β->γ->Prop} {la:List α} {lb:List β} {lc:List γ} (h:Na R la lb lc):∀(i:Nat) {a:α} {b:β} {c:γ},R a b c->Na R (la.set i a) (lb.set i b) (lc.set i c):=by
 induction h with
 | nil=>intro i a b c _;simp only[List.set_nil];exact .nil
 | cons h k ih =>
  intro i a b c hr
  cases i with
  | zero=>exact .cons hr k
  | succ i=>exact .cons h (ih i hr)
theorem RwB.Xp {P:Program} {α:Type} {E:F6 P α} {base:Nat} {w w5:bf} {v:Value} {css:List α} (ho:jm E w base v css) (hg5:w.grownBy w5 v.ownBlock):Zt E.T w w5:=Zt.arf hg5 (fun b hb=>by
 obtain⟨cur,hh⟩:=ho.cellT hb;exact⟨cur,(0,0),hh⟩)
end Go.Proofs.YtfeejeflmcapoaaGreatDoor
