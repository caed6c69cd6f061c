import Derived.Test.YtlcgnbcgmljpaaaGreatFB1
import Derived.Test.YtlcgnbcgmljpaaaGreatStepAll
namespace Go.Proofs.YtlcgnbcgmljpaaaGreat
open Go.RowKit
set_option linter.unusedSimpArgs false
set_option linter.unusedVariables false
abbrev Lf:=List (Addr × Bool)
def mkV (t:Bool) (k:Nat):Value:=if t then .string (Ah k) else .int .i64 (k:Int)
def Bl:Nat->Lf->List (Addr × Value)
 | _,[]=>[]
 | k,(a,t)::r=>(a,mkV t k)::Bl (k+1) r
theorem Ar (k:Nat) (a b:Lf):Bl k (a++b)=Bl k a++Bl (k+a.length) b:=by
 induction a generalizing k with
 | nil=>simp[Bl]
 | cons p a ih =>
  obtain⟨x,t⟩:=p
  simp only[List.cons_append,Bl,List.length_cons]
  rw[ih (k+1)]
  congr 3
  omega
def apW (ls:List (Addr × Value)) (a:Addr) (v:Option Value):Option Value:=ls.foldl (fun v p=>if p.1=a then v.map (fun _=>p.2) else v) v
theorem afb (l1 l2:List (Addr × Value)) (a:Addr) (v:Option Value):apW (l1++l2) a v=apW l2 a (apW l1 a v):=List.foldl_append ..
theorem avh (ls:List (Addr × Value)) (a:Addr) (v:Option Value) (h:∀p,p∈ls->p.1≠a):apW ls a v=v:=by
 induction ls generalizing v with
 | nil=>rfl
 | cons p ls ih =>
  show apW ls a (if p.1=a then v.map (fun _=>p.2) else v)=v
  rw[if_neg (h p (List.mem_cons_self ..))]
  exact ih v (fun q hq=>h q (List.mem_cons_of_mem _ hq))
structure X (lo hi:Nat) (ls:List (Addr × Value)) (w w':World):Prop where
 md:Mk lo hi w w'
 wr:∀b o,b<w.heap.size->w'.cell? ⟨b,o,none⟩=apW ls ⟨b,o,none⟩ (w.cell? ⟨b,o,none⟩)
theorem X.refl (lo hi:Nat) (w:World):X lo hi [] w w:=⟨Mk.refl lo hi w,fun _ _ _=>rfl⟩
theorem X.trans {lo hi:Nat} {l1 l2:List (Addr × Value)} {a b c:World} (h:X lo hi l1 a b) (k:X lo hi l2 b c):X lo hi (l1++l2) a c :=
 ⟨h.md.trans k.md,fun x o hx=>by rw[afb,k.wr x o (Nat.lt_of_lt_of_le hx h.md.size),h.wr x o hx]⟩
theorem X.of_below {lo hi:Nat} {w w':World} (h:Below w.heap.size w w') (hh:hi<=w.heap.size):X lo hi [] w w' :=
 ⟨Mk.of_below h hh,fun b o hb=>h.cell (p:=⟨b,o,none⟩) hb⟩
theorem X.then {lo hi:Nat} {ls:List (Addr × Value)} {w w1 w':World} (h:X lo hi ls w w1) (hb:Below w1.heap.size w1 w') (hh:hi<=w.heap.size):X lo hi ls w w':=by
 have h9:=h.trans (X.of_below hb (Nat.le_trans hh h.md.size))
 rwa[List.append_nil] at h9
theorem X.setCell {lo hi:Nat} {ls:List (Addr × Value)} {w w':World} (h:X lo hi ls w w') {b o:Nat} {v u:Value} (h1:lo<=b) (h2:b<hi) (hc:w'.cell? ⟨b,o,none⟩=some v) (hk:Kind2 v u):X lo hi (ls++[(⟨b,o,none⟩,u)]) w (w'.setCell ⟨b,o,none⟩ u):=by
 refine⟨h.md.setCell h1 h2 hc hk,fun b' o' hb=>?_⟩
 rw[afb,←h.wr b' o' hb]
 show _=if (⟨b,o,none⟩:Addr)=⟨b',o',none⟩ then (w'.cell? ⟨b',o',none⟩).map (fun _=>u) else w'.cell? ⟨b',o',none⟩
 by_cases e:b'=b∧o'=o
 ·obtain⟨rfl,rfl⟩:=e
  rw[if_pos rfl,hc,aaq _ _ _ _ _ hc]
  rfl
 ·rw[if_neg (fun h9=>e (by injection h9 with e1 e2;exact⟨e1.symm,e2.symm⟩))]
  exact yw _ _ _ _ _ (by simp only;omega)
theorem X.eq {lo hi:Nat} {l1 l2:List (Addr × Value)} {w w':World} (h:X lo hi l1 w w') (e:l1=l2):X lo hi l2 w w':=e▸h
theorem X.af8 {lo hi:Nat} {ls:List (Addr × Value)} {w w':World} (h:X lo hi ls w w') {b o:Nat} {y:Int} (h1:lo<=b) (h2:b<hi) (hc:w.cell? ⟨b,o,none⟩=some (.int .i64 y)):∃z,w'.cell? ⟨b,o,none⟩=some (.int .i64 z):=by
 obtain⟨v',h3,h4⟩:=h.md.cells b o _ h1 h2 hc
 obtain⟨z,rfl⟩:=h4.int
 exact⟨z,h3⟩
theorem X.aj8 {lo hi:Nat} {ls:List (Addr × Value)} {w w':World} (h:X lo hi ls w w') {b o:Nat} {y:ByteArray} (h1:lo<=b) (h2:b<hi) (hc:w.cell? ⟨b,o,none⟩=some (.string y)):∃z,w'.cell? ⟨b,o,none⟩=some (.string z):=by
 obtain⟨v',h3,h4⟩:=h.md.cells b o _ h1 h2 hc
 obtain⟨z,rfl⟩:=h4.str
 exact⟨z,h3⟩
theorem X.csl {lo hi:Nat} {ls:List (Addr × Value)} {w w':World} (h:X lo hi ls w w') {b o:Nat} {a:Option Addr} {n c:Nat} (h1:lo<=b) (h2:b<hi) (hc:w.cell? ⟨b,o,none⟩=some (.slice a n c)):w'.cell? ⟨b,o,none⟩=some (.slice a n c):=by
 obtain⟨v',h3,h4⟩:=h.md.cells b o _ h1 h2 hc
 rw[h4.sl] at h3
 exact h3
theorem X.Ox {lo hi:Nat} {ls:List (Addr × Value)} {w w':World} (h:X lo hi ls w w') {b o:Nat} (h1:lo<=b) (h2:b<hi) (hc:w.frozen? ⟨b,o,none⟩=false):w'.frozen? ⟨b,o,none⟩=false:=(h.md.frz b o h1 h2).trans hc
def ElL {α:Type} (sz:Nat) (R:Nat->Nat->World->Nat->Nat->List Value->α->Lf->Prop) (lo hi:Nat) (w:World) (b off:Nat) (x:α) (l:Lf):Prop :=
 lo<=b∧b<hi∧∃cs,cs.length=sz∧(∀j (hj:j<cs.length),w.cell? ⟨b,off+j,none⟩=some cs[j]∧w.frozen? ⟨b,off+j,none⟩=false)∧R lo hi w b off cs x l
def Dk {α:Type} (sz:Nat) (R:Nat->Nat->World->Nat->Nat->List Value->α->Lf->Prop) (lo hi:Nat) (w:World) (v:Value) (xs:List α) (l:Lf):Prop :=
 ∃a cap,∃lss:List Lf,v=.slice a xs.length cap∧Len xs.length∧lss.length=xs.length∧l=lss.flatten∧∀i (h:i<xs.length) (h':i<lss.length),∃b o,a=some ⟨b,o,none⟩∧ElL sz R lo hi w b (o+i*sz) xs[i] lss[i]
def Tv {α:Type} (R:Nat->Nat->World->Nat->Nat->List Value->α->Lf->Prop):Prop:=∀lo hi w w' b off cs cs' x l,Mk lo hi w w'->cs'.length=cs.length->(∀j (h:j<cs.length) (h':j<cs'.length),Kind2 cs[j] cs'[j])->R lo hi w b off cs x l->R lo hi w' b off cs' x l
theorem ElL.stays {α:Type} {sz:Nat} {R:Nat->Nat->World->Nat->Nat->List Value->α->Lf->Prop} (hR:Tv R) {lo hi:Nat} {w w':World} {b off:Nat} {x:α} {l:Lf} (hm:Mk lo hi w w') (h:ElL sz R lo hi w b off x l):ElL sz R lo hi w' b off x l:=by
 obtain⟨h1,h2,cs,hl,hc,hr⟩:=h
 refine⟨h1,h2,?_⟩
 obtain⟨cs',hl',hc'⟩:=aec sz (fun j v=>w'.cell? ⟨b,off+j,none⟩=some v∧∃u,cs[j]?=some u∧Kind2 u v) (fun j hj=>by
  obtain⟨v',h3,h4⟩:=hm.cells b (off+j) _ h1 h2 (hc j (by omega)).1
  exact⟨v',h3,_,List.getElem?_eq_getElem (by omega),h4⟩)
 refine⟨cs',hl',fun j hj=>⟨(hc' j hj).1,?_⟩,hR _ _ _ _ _ _ _ _ _ _ hm (by omega) (fun j h3 h4=>?_) hr⟩
 ·rw[hm.frz b _ h1 h2]
  exact(hc j (by omega)).2
 ·obtain⟨_,u,h5,h6⟩:=hc' j h4
  rw[List.getElem?_eq_getElem h3] at h5
  obtain rfl:cs[j]=u:=by simpa using h5
  exact h6
theorem Dk.stays {α:Type} {sz:Nat} {R:Nat->Nat->World->Nat->Nat->List Value->α->Lf->Prop} (hR:Tv R) {lo hi:Nat} {w w':World} {v:Value} {xs:List α} {l:Lf} (hm:Mk lo hi w w') (h:Dk sz R lo hi w v xs l):Dk sz R lo hi w' v xs l:=by
 obtain⟨a,cap,lss,h1,h2,h3,h4,h5⟩:=h
 refine⟨a,cap,lss,h1,h2,h3,h4,fun i hi hi'=>?_⟩
 obtain⟨b,o,h6,h7⟩:=h5 i hi hi'
 exact⟨b,o,h6,h7.stays hR hm⟩
theorem Dk.shape {α:Type} {sz:Nat} {R:Nat->Nat->World->Nat->Nat->List Value->α->Lf->Prop} {lo hi:Nat} {w:World} {v:Value} {xs:List α} {l:Lf} (h:Dk sz R lo hi w v xs l):∃a cap,v=.slice a xs.length cap:=by
 obtain⟨a,cap,lss,h1,_⟩:=h
 exact⟨a,cap,h1⟩
theorem Dk.same {α:Type} {sz:Nat} {R:Nat->Nat->World->Nat->Nat->List Value->α->Lf->Prop} (hR:Tv R) {lo hi:Nat} {w w':World} {v v':Value} {xs:List α} {l:Lf} (hm:Mk lo hi w w') (hk:Kind2 v v') (h:Dk sz R lo hi w v xs l):Dk sz R lo hi w' v' xs l:=by
 have h9:=h.stays hR hm
 obtain⟨a,cap,rfl⟩:=h.shape
 rw[hk.sl]
 exact h9
def Z7 (_ _:Nat) (_:World) (b o:Nat) (cs:List Value) (_:ByteArray) (l:Lf):Prop:=(∃s,cs=[.string s])∧l=[(⟨b,o,none⟩,true)]
def Z8 (_ _:Nat) (_:World) (b o:Nat) (cs:List Value) (_:Int) (l:Lf):Prop:=(∃x,cs=[.int .i64 x])∧l=[(⟨b,o,none⟩,false)]
def Vr (_ _:Nat) (_:World) (b o:Nat) (cs:List Value) (_:iw) (l:Lf):Prop:=(∃x y s,cs=[.int .i64 x,.int .i64 y,.string s])∧l=[(⟨b,o,none⟩,false),(⟨b,o+1,none⟩,false),(⟨b,o+2,none⟩,true)]
def W9 (lo hi:Nat) (w:World) (_ _:Nat) (cs:List Value) (x:List iw) (l:Lf):Prop:=∃v l0,cs=[v]∧Dk 3 Vr lo hi w v x l0∧l=l0
def Vs (_ _:Nat) (_:World) (b o:Nat) (cs:List Value) (_:gy) (l:Lf):Prop:=(∃s x,cs=[.string s,.int .i64 x])∧l=[(⟨b,o,none⟩,true),(⟨b,o+1,none⟩,false)]
def adh (lo hi:Nat) (w:World) (b o:Nat) (cs:List Value) (t:dh) (l:Lf):Prop:=∃x s y v3 v4 v5 l3 l4 l5,cs=[.int .i64 x,.string s,.int .i64 y,v3,v4,v5]∧Dk 1 Z7 lo hi w v3 t.outs l3∧Dk 3 Vr lo hi w v4 t.code l4∧Dk 1 W9 lo hi w v5 t.args l5∧l=[(⟨b,o,none⟩,false),(⟨b,o+1,none⟩,true),(⟨b,o+2,none⟩,false)]++l3++l4++l5
def Uj (lo hi:Nat) (w:World) (b o:Nat) (cs:List Value) (k:ak) (l:Lf):Prop:=∃s v1 v2 v3 v4 v5 v6 l1 l2 l3 l4 l5 l6,cs=[.string s,v1,v2,v3,v4,v5,v6]∧Dk 2 Vs lo hi w v1 k.ins l1∧Dk 2 Vs lo hi w v2 k.outs l2∧Dk 1 Z7 lo hi w v3 k.ay l3∧Dk 1 Z8 lo hi w v4 k.aj l4∧Dk 1 Z8 lo hi w v5 k.insts l5∧Dk 6 adh lo hi w v6 k.body l6∧l=[(⟨b,o,none⟩,true)]++l1++l2++l3++l4++l5++l6
theorem Ut:Tv Z7:=fun _ _ _ _ _ _ _ _ _ _ _ hl hk ⟨⟨s,h⟩,h2⟩=>by
 subst h
 obtain⟨a',rfl,h3⟩:=Yt hl hk
 obtain⟨y,rfl⟩:=h3.str
 exact⟨⟨_,rfl⟩,h2⟩
theorem Uu:Tv Z8:=fun _ _ _ _ _ _ _ _ _ _ _ hl hk ⟨⟨s,h⟩,h2⟩=>by
 subst h
 obtain⟨a',rfl,h3⟩:=Yt hl hk
 obtain⟨y,rfl⟩:=h3.int
 exact⟨⟨_,rfl⟩,h2⟩
theorem Rf:Tv Vr:=fun _ _ _ _ _ _ _ _ _ _ _ hl hk ⟨⟨x,y,s,h⟩,h2⟩=>by
 subst h
 obtain⟨a',b',c',rfl,h3,h4,h5⟩:=apt hl hk
 obtain⟨_,rfl⟩:=h3.int
 obtain⟨_,rfl⟩:=h4.int
 obtain⟨_,rfl⟩:=h5.str
 exact⟨⟨_,_,_,rfl⟩,h2⟩
theorem Yi:Tv W9:=fun _ _ _ _ _ _ _ _ _ _ hm hl hk ⟨v,l0,h,h2,h3⟩=>by
 subst h
 obtain⟨a',rfl,h4⟩:=Yt hl hk
 exact⟨_,_,rfl,h2.same Rf hm h4,h3⟩
theorem Rh:Tv Vs:=fun _ _ _ _ _ _ _ _ _ _ _ hl hk ⟨⟨x,y,h⟩,h2⟩=>by
 subst h
 obtain⟨a',b',rfl,h3,h4⟩:=aps hl hk
 obtain⟨_,rfl⟩:=h3.str
 obtain⟨_,rfl⟩:=h4.int
 exact⟨⟨_,_,rfl⟩,h2⟩
theorem ab2:Tv adh:=fun _ _ _ _ _ _ _ _ _ _ hm hl hk ⟨x,s,y,v3,v4,v5,l3,l4,l5,h,g3,g4,g5,h2⟩=>by
 subst h
 obtain⟨a',b',c',d',e',f',rfl,h3,h4,h5,h6,h7,h8⟩:=apu hl hk
 obtain⟨_,rfl⟩:=h3.int
 obtain⟨_,rfl⟩:=h4.str
 obtain⟨_,rfl⟩:=h5.int
 exact⟨_,_,_,_,_,_,_,_,_,rfl,g3.same Ut hm h6,g4.same Rf hm h7,g5.same Yi hm h8,h2⟩
theorem Yd:Tv Uj:=fun _ _ _ _ _ _ _ _ _ _ hm hl hk ⟨s,v1,v2,v3,v4,v5,v6,l1,l2,l3,l4,l5,l6,h,g1,g2,g3,g4,g5,g6,h2⟩=>by
 subst h
 obtain⟨a',b',c',d',e',f',i',rfl,h3,k1,k2,k3,k4,k5,k6⟩:=apv hl hk
 obtain⟨_,rfl⟩:=h3.str
 exact⟨_,_,_,_,_,_,_,_,_,_,_,_,_,rfl,g1.same Rh hm k1,g2.same Rh hm k2,g3.same Ut hm k3,g4.same Uu hm k4,g5.same Uu hm k5,g6.same ab2 hm k6,h2⟩
theorem xw (lss:List Lf) (q:Nat) (h:q<lss.length):(lss.take (q+1)).flatten=(lss.take q).flatten++lss[q]:=by
 rw[List.take_succ_eq_append_getElem h,List.flatten_append]
 simp
theorem F9 (lss:List Lf) (q:Nat):(lss.take q).flatten.length<=lss.flatten.length:=by
 have h:=congrArg (fun z=>(List.flatten z).length) (List.take_append_drop q lss)
 simp only[List.flatten_append,List.length_append] at h
 omega
theorem D8 (lss:List Lf) (q:Nat) (h:lss.length<=q):(lss.take q).flatten=lss.flatten:=by rw[List.take_of_length_le h]
def Uk (lo hi k r:Nat) (l:Lf) (w:World) (e:Ending) (w':World):Prop:=e=.returned (.int .i64 (r:Int))∧X lo hi (Bl k l) w w'
def Held (k:Nat) (l:Lf) (w:World):Prop:=∀i (h:i<l.length),w.cell? l[i].1=some (mkV l[i].2 (k+i))
theorem Held.left {k:Nat} {a b:Lf} {w:World} (h:Held k (a++b) w):Held k a w:=fun i hi=>by
 have h9:=h i (by rw[List.length_append];omega)
 rw[List.getElem_append_left hi] at h9
 exact h9
theorem Held.right {k:Nat} {a b:Lf} {w:World} (h:Held k (a++b) w):Held (k+a.length) b w:=fun i hi=>by
 have h9:=h (a.length+i) (by rw[List.length_append];omega)
 rw[List.getElem_append_right (by omega)] at h9
 simp only[Nat.add_sub_cancel_left] at h9
 rw[h9,Nat.add_assoc]
theorem Held.at {k k':Nat} {l:Lf} {w:World} (h:Held k l w) (e:k=k'):Held k' l w:=e▸h
theorem Tc {k kq q:Nat} {lss:List Lf} {w:World} (h:Held k lss.flatten w) (hq:q<lss.length) (hk:k+(lss.take q).flatten.length=kq):Held kq lss[q] w:=by
 have e:lss.flatten=((lss.take q).flatten++lss[q])++(lss.drop (q+1)).flatten:=by
  rw[←xw _ _ hq,←List.flatten_append,List.take_append_drop]
 rw[e] at h
 have h2:=h.left.right
 rw[hk] at h2
 exact h2
theorem X.held {lo hi k:Nat} {l:Lf} {w w':World} (h:X lo hi (Bl k l) w w') (hn:(l.map Prod.fst).Nodup) (hc:∀p,p∈l->p.1.spot=none∧p.1.block<w.heap.size∧∃v,w.cell? p.1=some v):Held k l w':=by
 have key:∀(l:Lf) (k:Nat) (a:Addr) (v:Option Value),(l.map Prod.fst).Nodup->v.isSome=true->∀i (h:i<l.length),l[i].1=a->apW (Bl k l) a v=some (mkV l[i].2 (k+i)):=by
  intro l
  induction l with
  | nil=>intro k a v _ _ i h;exact absurd h (Nat.not_lt_zero _)
  | cons p l ih =>
   intro k a v hn hv i hi he
   obtain⟨x,t⟩:=p
   show apW (Bl (k+1) l) a (if x=a then v.map (fun _=>mkV t k) else v)=_
   simp only[List.map_cons,List.nodup_cons] at hn
   cases i with
   | zero =>
    simp only[List.getElem_cons_zero] at he ⊢
    subst he
    rw[if_pos rfl,avh]
    ·obtain⟨u,rfl⟩:=Option.isSome_iff_exists.1 hv
     rfl
    ·intro q hq e9
     refine hn.1 ?_
     rw[←e9]
     have:∀(l:Lf) (k:Nat) q,q∈Bl k l->q.1∈l.map Prod.fst:=by
      intro l
      induction l with
      | nil=>intro k q hq;cases hq
      | cons p l ih =>
       intro k q hq
       rcases List.mem_cons.1 hq with rfl|h9
       ·exact List.mem_cons_self ..
       ·exact List.mem_cons_of_mem _ (ih _ _ h9)
     exact this l _ q hq
   | succ i =>
    simp only[List.getElem_cons_succ] at he ⊢
    have hne:x≠a:=fun e9=>hn.1 (by rw[e9,←he];exact List.mem_map_of_mem (List.getElem_mem _))
    rw[if_neg hne,ih (k+1) a v hn.2 hv i (by simpa using hi) he]
    congr 2
    omega
 intro i hi
 obtain⟨h1,h2,v,h3⟩:=hc _ (List.getElem_mem hi)
 obtain⟨⟨⟨b,o,p⟩,t⟩,hp⟩:∃q,q=l[i]:=⟨_,rfl⟩
 rw[←hp] at h1 h2 h3
 simp only at h1 h2 h3
 subst h1
 have h9:=key l k ⟨b,o,none⟩ (w.cell? ⟨b,o,none⟩) hn (by rw[h3];rfl) i hi (by rw[←hp])
 rw[show l[i].1=⟨b,o,none⟩ from by rw[←hp],h.wr b o h2,h9]
def Good (bs:List Nat) (l:Lf) (w:World):Prop:=(l.map Prod.fst).Nodup∧∀p,p∈l->p.1.spot=none∧p.1.block∈bs∧∃v,w.cell? p.1=some v
def Ih (b o sz:Nat) (bs:List Nat) (l:Lf) (w:World):Prop:=(l.map Prod.fst).Nodup∧∀p,p∈l->p.1.spot=none∧((p.1.block=b∧o<=p.1.off∧p.1.off<o+sz)∨(p.1.block∈bs∧∃v,w.cell? p.1=some v))
theorem arv {β:Type} (n:Nat) (P:Nat->β->Prop) (h:∀j,j<n->∃v,P j v):∃cs:List β,cs.length=n∧∀j (hj:j<cs.length),P j cs[j]:=by
 induction n with
 | zero=>exact⟨[],rfl,fun j hj=>absurd hj (Nat.not_lt_zero _)⟩
 | succ n ih =>
  obtain⟨cs,hl,hc⟩:=ih (fun j hj=>h j (by omega))
  obtain⟨v,hv⟩:=h n (by omega)
  refine⟨cs++[v],by simp[hl],fun j hj=>?_⟩
  by_cases e:j<cs.length
  ·rw[List.getElem_append_left e]
   exact hc j e
  ·have e2:j=cs.length:=by simp at hj;omega
   subst e2
   rw[List.getElem_append_right (Nat.le_refl _)]
   simp only[Nat.sub_self,List.getElem_cons_zero]
   rw[hl]
   exact hv
theorem arw {subs:List (List Nat)} (h:subs.flatten.Nodup) {i j:Nat} (hi:i<subs.length) (hj:j<subs.length) (hne:i≠j) {x:Nat} (h1:x∈subs[i]) (h2:x∈subs[j]):False:=by
 have hp:=(List.pairwise_flatten.1 h).2
 rw[List.pairwise_iff_getElem] at hp
 rcases Nat.lt_or_gt_of_ne hne with c|c
 ·exact hp i j hi hj c x h1 x h2 rfl
 ·exact hp j i hj hi c x h2 x h1 rfl
theorem ama {α:Type} {sz:Nat} {L:Nat->Nat->World->Nat->Nat->List Value->α->Lf->Prop} {lo hi:Nat} {w:World} {g cap:Nat} {xs:List α} {subs:List (List Nat)} {cells:Nat->List Value} (hlo:lo<=g) (hhi:g<hi) (hn:Len xs.length)
  (hcell:∀i,i<xs.length->(cells i).length=sz∧∀j (hj:j<(cells i).length),w.cell? ⟨g,i*sz+j,none⟩=some (cells i)[j]∧w.frozen? ⟨g,i*sz+j,none⟩=false)
  (hl:subs.length=xs.length) (hE:∀i (h:i<xs.length) (h':i<subs.length),∃l,L lo hi w g (i*sz) (cells i) xs[i] l∧Ih g (i*sz) sz subs[i] l w) (hnd:(g::subs.flatten).Nodup) :
  ∃l,Dk sz L lo hi w (.slice (some ⟨g,0,none⟩) xs.length cap) xs l∧Good (g::subs.flatten) l w:=by
 obtain⟨lss,hls,hp⟩:=arv xs.length (fun i l=>∃(h:i<xs.length) (h':i<subs.length),L lo hi w g (i*sz) (cells i) xs[i] l∧Ih g (i*sz) sz subs[i] l w) (fun i hi=>by
  obtain⟨l,h1,h2⟩:=hE i hi (by omega)
  exact⟨l,hi,by omega,h1,h2⟩)
 obtain⟨hg,hsn⟩:=List.nodup_cons.1 hnd
 refine⟨lss.flatten,⟨_,cap,lss,rfl,hn,hls,rfl,fun i h h'=>⟨g,0,rfl,hlo,hhi,cells i,(hcell i h).1,fun j hj=>?_,?_⟩⟩,?_,fun p hpm=>?_⟩
 ·rw[Nat.zero_add]
  exact(hcell i h).2 j hj
 ·rw[Nat.zero_add]
  obtain⟨_,_,h1,_⟩:=hp i h'
  exact h1
 ·rw[List.map_flatten]
  unfold List.Nodup
  rw[List.pairwise_flatten]
  refine⟨fun l hl9=>?_,?_⟩
  ·obtain⟨l0,h0,rfl⟩:=List.mem_map.1 hl9
   obtain⟨i,hi9,rfl⟩:=List.mem_iff_getElem.1 h0
   obtain⟨_,_,_,h2⟩:=hp i hi9
   exact h2.1
  ·rw[List.pairwise_iff_getElem]
   intro i j hi9 hj9 hij x hx y hy exy
   rw[List.length_map] at hi9 hj9
   rw[List.getElem_map] at hx hy
   subst exy
   obtain⟨p1,hp1,e1⟩:=List.mem_map.1 hx
   obtain⟨p2,hp2,e2⟩:=List.mem_map.1 hy
   obtain⟨h1i,h1s,_,h1⟩:=hp i hi9
   obtain⟨h2i,h2s,_,h2⟩:=hp j hj9
   have k1:=(h1.2 p1 hp1).2
   have k2:=(h2.2 p2 hp2).2
   rw[e1] at k1
   rw[e2] at k2
   rcases k1 with ⟨c1,c2,c3⟩|⟨c1,_⟩
   ·rcases k2 with ⟨d1,d2,d3⟩|⟨d1,_⟩
    ·have:i*sz+sz<=j*sz:=by
      have h9:=Nat.mul_le_mul_right sz (show i+1<=j from hij)
      rw[Nat.add_mul] at h9
      omega
     omega
    ·exact hg (by rw[←c1];exact List.mem_flatten.2 ⟨_,List.getElem_mem h2s,d1⟩)
   ·rcases k2 with ⟨d1,d2,d3⟩|⟨d1,_⟩
    ·exact hg (by rw[←d1];exact List.mem_flatten.2 ⟨_,List.getElem_mem h1s,c1⟩)
    ·exact arw hsn h1s h2s (by omega) c1 d1
 ·obtain⟨l0,h0,hpl⟩:=List.mem_flatten.1 hpm
  obtain⟨i,hi9,rfl⟩:=List.mem_iff_getElem.1 h0
  obtain⟨h1i,h1s,_,h1⟩:=hp i hi9
  obtain⟨k0,k1⟩:=h1.2 p hpl
  refine⟨k0,?_⟩
  rcases k1 with ⟨c1,c2,c3⟩|⟨c1,c2⟩
  ·refine⟨by rw[c1];exact List.mem_cons_self ..,?_⟩
   obtain⟨q1,q2⟩:=hcell i h1i
   obtain⟨⟨b,o,sp⟩,t⟩:=p
   simp only at c1 c2 c3 k0
   subst c1 k0
   have h9:=(q2 (o-i*sz) (by omega)).1
   rw[show i*sz+(o-i*sz)=o from by omega] at h9
   exact⟨_,h9⟩
  ·exact⟨List.mem_cons_of_mem _ (List.mem_flatten.2 ⟨_,List.getElem_mem h1s,c1⟩),c2⟩
theorem amb {α:Type} {sz:Nat} (L:Nat->Nat->World->Nat->Nat->List Value->α->Lf->Prop) (lo hi:Nat) (w:World) (a:Option Addr) (cap:Nat) (bs:List Nat):∃l,Dk sz L lo hi w (.slice a 0 cap) ([]:List α) l∧Good bs l w :=
 ⟨[],⟨a,cap,[],rfl,by simp[Len],rfl,rfl,fun i h=>absurd h (Nat.not_lt_zero _)⟩,List.nodup_nil,fun p hp=>by cases hp⟩
theorem zf.lat {α:Type} {E:wo Tryz.prog α} {ok:α->Prop} {L:Nat->Nat->World->Nat->Nat->List Value->α->Lf->Prop} {lo hi:Nat} {w:World} {v:Value} {xs:List α} {bs:List Nat} (h:zf E ok w v xs bs) (hb:∀b,b∈bs->lo<=b∧b<hi) (hL:∀x b o,∃l,L lo hi w b o (E.f x) x l∧Ih b o E.sz [] l w):∃l,Dk E.sz L lo hi w v xs l∧Good bs l w:=by
 obtain⟨h1,h2,h3,rfl⟩:=h
 rcases h1.O8 with ⟨a,cap,rfl,rfl⟩|⟨g,cap,rfl,hc⟩
 ·exact amb _ _ _ _ _ _ _
 ·have hg:=hb g (iq.2 rfl)
  have hrep:(List.replicate xs.length ([]:List Nat)).flatten=[]:=by simp
  have hn:Len xs.length:=Nat.le_trans (Nat.le_mul_of_pos_right _ E.hby) h3
  have h9:=ama (L:=L) (lo:=lo) (hi:=hi) (w:=w) (g:=g) (cap:=cap) (xs:=xs) (subs:=List.replicate xs.length []) (cells:=fun i=>if h:i<xs.length then E.f xs[i] else []) (sz:=E.sz) hg.1 hg.2 hn (fun i hi9=>by
   simp only[dif_pos hi9]
   exact⟨E.hf _,fun j hj=>hc i hi9 j hj⟩) (by simp) (fun i hi9 hi8=>by
   simp only[dif_pos hi9,List.getElem_replicate]
   exact hL _ _ _) (by rw[hrep];simp)
  rw[hrep] at h9
  exact h9
theorem C9.lat {α:Type} {sz:Nat} {E:wo Tryz.prog (Raw sz)} (hE:E.sz=sz) (hf:∀c,E.f c=c.1) {R:World->List Value->α->List Nat->Prop} {L:Nat->Nat->World->Nat->Nat->List Value->α->Lf->Prop} {lo hi:Nat} {w:World} {v:Value} {xs:List α} {bs:List Nat} (h:C9 E R w v xs bs) (hnd:bs.Nodup) (hb:∀b,b∈bs->lo<=b∧b<hi)
  (hL:∀cs x s b o,R w cs x s->s.Nodup->(∀c,c∈s->lo<=c∧c<hi)->b∉s->∃l,L lo hi w b o cs x l∧Ih b o sz s l w):∃l,Dk sz L lo hi w v xs l∧Good bs l w:=by
 obtain⟨css,subs,h1,h2,h3,rfl⟩:=h
 have hl3:=h3.len
 rcases h1.O8 with ⟨a,cap,rfl,rfl⟩|⟨g,cap,rfl,hc⟩
 ·obtain rfl:xs=[]:=List.eq_nil_of_length_eq_zero hl3.1.symm
  exact amb _ _ _ _ _ _ _
 ·have eb:gu (.slice (some ⟨g,0,none⟩) css.length cap)++subs.flatten=g::subs.flatten:=rfl
  rw[eb] at hnd hb ⊢
  have hg:=hb g (List.mem_cons_self ..)
  have hn:Len xs.length:=by rw[←hl3.1];exact Nat.le_trans (Nat.le_mul_of_pos_right _ E.hby) h2
  have hsn:=(List.nodup_cons.1 hnd).2
  rw[hl3.1]
  refine ama (cells:=fun i=>if h:i<css.length then css[i].1 else []) hg.1 hg.2 hn (fun i hi9=>?_) hl3.2 (fun i hi9 hi8=>?_) hnd
  ·have hi7:i<css.length:=by omega
   simp only[dif_pos hi7]
   refine⟨css[i].2.1,fun j hj=>?_⟩
   have h9:=hc i hi7 j (by rw[hf];exact hj)
   simp only[hf,hE] at h9
   exact h9
  ·have hi7:i<css.length:=by omega
   simp only[dif_pos hi7]
   have hs:∀c,c∈subs[i]->c∈subs.flatten:=fun c hc9=>List.mem_flatten.2 ⟨_,List.getElem_mem hi8,hc9⟩
   exact hL _ _ _ _ _ (h3.get i hi7 hi9 hi8) ((List.pairwise_flatten.1 hsn).1 _ (List.getElem_mem hi8)) (fun c hc9=>hb c (List.mem_cons_of_mem _ (hs c hc9))) (fun h9=>(List.nodup_cons.1 hnd).1 (hs g h9))
theorem Nv {b o sz:Nat} {bs:List Nat} {l:Lf} {w:World} (h1:(l.map Prod.fst).Nodup) (h2:∀p,p∈l->p.1.spot=none∧p.1.block=b∧o<=p.1.off∧p.1.off<o+sz):Ih b o sz bs l w:=⟨h1,fun p hp=>⟨(h2 p hp).1,Or.inl (h2 p hp).2⟩⟩
theorem Ii {b o sz:Nat} {bs bs':List Nat} {l l':Lf} {w:World} (h:Ih b o sz bs l w) (k:Good bs' l' w) (hb:b∉bs') (hd:∀x,x∈bs->x∉bs'):Ih b o sz (bs++bs') (l++l') w:=by
 refine⟨?_,fun p hp=>?_⟩
 ·rw[List.map_append,List.nodup_append]
  refine⟨h.1,k.1,fun x hx y hy e=>?_⟩
  subst e
  obtain⟨p,hp,e1⟩:=List.mem_map.1 hx
  obtain⟨q,hq,e2⟩:=List.mem_map.1 hy
  have h1:=(h.2 p hp).2
  have h2:=(k.2 q hq).2.1
  rw[e1] at h1
  rw[e2] at h2
  rcases h1 with ⟨c,_⟩|⟨c,_⟩
  ·rw[c] at h2;exact hb h2
  ·exact hd _ c h2
 ·rcases List.mem_append.1 hp with h9|h9
  ·obtain⟨a1,a2⟩:=h.2 p h9
   exact⟨a1,a2.imp id fun⟨a3,a4⟩=>⟨List.mem_append_left _ a3,a4⟩⟩
  ·obtain⟨a1,a2,a3⟩:=k.2 p h9
   exact⟨a1,Or.inr ⟨List.mem_append_right _ a2,a3⟩⟩
theorem a1n (lo hi:Nat) (w:World) (x:ByteArray) (b o:Nat):∃l,Z7 lo hi w b o (Gw.f x) x l∧Ih b o 1 [] l w :=
 ⟨[(⟨b,o,none⟩,true)],⟨⟨x,rfl⟩,rfl⟩,Nv (by simp) (fun p hp=>by rw[List.mem_singleton] at hp;subst hp;exact⟨rfl,rfl,Nat.le_refl _,by simp⟩)⟩
theorem a1o (lo hi:Nat) (w:World) (x:Int) (b o:Nat):∃l,Z8 lo hi w b o (Hw.f x) x l∧Ih b o 1 [] l w :=
 ⟨[(⟨b,o,none⟩,false)],⟨⟨x,rfl⟩,rfl⟩,Nv (by simp) (fun p hp=>by rw[List.mem_singleton] at hp;subst hp;exact⟨rfl,rfl,Nat.le_refl _,by simp⟩)⟩
theorem awm (lo hi:Nat) (w:World) (x:iw) (b o:Nat):∃l,Vr lo hi w b o (Dv.f x) x l∧Ih b o 3 [] l w:=by
 refine⟨[(⟨b,o,none⟩,false),(⟨b,o+1,none⟩,false),(⟨b,o+2,none⟩,true)],⟨⟨_,_,_,rfl⟩,rfl⟩,Nv (by simp) (fun p hp=>?_)⟩
 simp only[List.mem_cons,List.not_mem_nil,or_false] at hp
 rcases hp with rfl|rfl|rfl<;>exact⟨rfl,rfl,by simp,by simp⟩
theorem slotL (lo hi:Nat) (w:World) (x:gy) (b o:Nat):∃l,Vs lo hi w b o (yh.f x) x l∧Ih b o 2 [] l w:=by
 refine⟨[(⟨b,o,none⟩,true),(⟨b,o+1,none⟩,false)],⟨⟨_,_,rfl⟩,rfl⟩,Nv (by simp) (fun p hp=>?_)⟩
 simp only[List.mem_cons,List.not_mem_nil,or_false] at hp
 rcases hp with rfl|rfl<;>exact⟨rfl,rfl,by simp,by simp⟩
theorem Good.a2q {b o sz:Nat} {bs:List Nat} {l:Lf} {w:World} (h:Good bs l w):Ih b o sz bs l w:=⟨h.1,fun p hp=>⟨(h.2 p hp).1,Or.inr (h.2 p hp).2⟩⟩
theorem a1p {lo hi:Nat} {w:World} {cs:List Value} {x:List iw} {s:List Nat} {b o:Nat} (h:Dw w cs x s) (hb:∀c,c∈s->lo<=c∧c<hi):∃l,W9 lo hi w b o cs x l∧Ih b o 1 s l w:=by
 obtain⟨v,h1,h2⟩:=h
 obtain⟨l,h3,h4⟩:=h2.lat (L:=Vr) hb (fun x b o=>awm lo hi w x b o)
 exact⟨l,⟨v,l,h1,h3,rfl⟩,h4.a2q⟩
theorem Ij {a b:List Nat} (h:(a++b).Nodup):a.Nodup∧b.Nodup∧∀x,x∈a->x∉b:=by
 rw[List.nodup_append] at h
 exact⟨h.1,h.2.1,fun x h1 h2=>h.2.2 x h1 x h2 rfl⟩
theorem a5i {lo hi:Nat} {w:World} {cs:List Value} {x:dh} {s:List Nat} {b o:Nat} (h:Aa w cs x s) (hnd:s.Nodup) (hb:∀c,c∈s->lo<=c∧c<hi) (hbs:b∉s):∃l,adh lo hi w b o cs x l∧Ih b o 6 s l w:=by
 obtain⟨ov,cv,av,b1,b2,b3,h1,h2,h3,h4,h5,h6,h7,rfl⟩:=h
 obtain⟨n12,n3,d3⟩:=Ij hnd
 obtain⟨n1,n2,d2⟩:=Ij n12
 obtain⟨l1,p1,q1⟩:=h5.lat (L:=Z7) (fun c hc=>hb c (by simp[hc])) (fun x b o=>a1n lo hi w x b o)
 obtain⟨l2,p2,q2⟩:=h6.lat (L:=Vr) (fun c hc=>hb c (by simp[hc])) (fun x b o=>awm lo hi w x b o)
 obtain⟨l3,p3,q3⟩:=h7.lat rfl (fun _=>rfl) (L:=W9) n3 (fun c hc=>hb c (by simp[hc])) (fun cs x s b o hr _ hs _=>a1p hr hs)
 have e0:Ih b o 6 [] [((⟨b,o,none⟩:Addr),false),(⟨b,o+1,none⟩,true),(⟨b,o+2,none⟩,false)] w:=Nv (by simp) (fun p hp=>by
  simp only[List.mem_cons,List.not_mem_nil,or_false] at hp
  rcases hp with rfl|rfl|rfl<;>exact⟨rfl,rfl,by simp,by simp⟩)
 have e1:=Ii e0 q1 (fun h9=>hbs (by simp[h9])) (fun x hx=>by cases hx)
 have e2:=Ii e1 q2 (fun h9=>hbs (by simp[h9])) (fun x hx=>d2 x (by simpa using hx))
 have e3:=Ii e2 q3 (fun h9=>hbs (by simp[h9])) (fun x hx=>d3 x (by simpa using hx))
 exact⟨_,⟨_,_,_,_,_,_,l1,l2,l3,h1,p1,p2,p3,rfl⟩,by simpa using e3⟩
theorem a1q {lo hi:Nat} {w:World} {cs:List Value} {x:ak} {s:List Nat} {b o:Nat} (h:oh w cs x s) (hnd:s.Nodup) (hb:∀c,c∈s->lo<=c∧c<hi) (hbs:b∉s):∃l,Uj lo hi w b o cs x l∧Ih b o 7 s l w:=by
 obtain⟨v1,v2,v3,v4,v5,v6,b1,b2,b3,b4,b5,b6,h0,hn,h1,h2,h3,h4,h5,h6,rfl⟩:=h
 obtain⟨n5,n6,d6⟩:=Ij hnd
 obtain⟨n4,_,d5⟩:=Ij n5
 obtain⟨n3,_,d4⟩:=Ij n4
 obtain⟨n2,_,d3⟩:=Ij n3
 obtain⟨n1,_,d2⟩:=Ij n2
 obtain⟨l1,p1,q1⟩:=h1.lat (L:=Vs) (fun c hc=>hb c (by simp[hc])) (fun x b o=>slotL lo hi w x b o)
 obtain⟨l2,p2,q2⟩:=h2.lat (L:=Vs) (fun c hc=>hb c (by simp[hc])) (fun x b o=>slotL lo hi w x b o)
 obtain⟨l3,p3,q3⟩:=h3.lat (L:=Z7) (fun c hc=>hb c (by simp[hc])) (fun x b o=>a1n lo hi w x b o)
 obtain⟨l4,p4,q4⟩:=h4.lat (L:=Z8) (fun c hc=>hb c (by simp[hc])) (fun x b o=>a1o lo hi w x b o)
 obtain⟨l5,p5,q5⟩:=h5.lat (L:=Z8) (fun c hc=>hb c (by simp[hc])) (fun x b o=>a1o lo hi w x b o)
 obtain⟨l6,p6,q6⟩:=h6.lat rfl (fun _=>rfl) (L:=adh) n6 (fun c hc=>hb c (by simp[hc])) (fun cs x s b o hr h8 hs h9=>a5i hr h8 hs h9)
 have e0:Ih b o 7 [] [((⟨b,o,none⟩:Addr),true)] w:=Nv (by simp) (fun p hp=>by
  rw[List.mem_singleton] at hp
  subst hp
  exact⟨rfl,rfl,by simp,by simp⟩)
 have e1:=Ii e0 q1 (fun h9=>hbs (by simp[h9])) (fun x hx=>by cases hx)
 have e2:=Ii e1 q2 (fun h9=>hbs (by simp[h9])) (fun x hx=>d2 x (by simpa using hx))
 have e3:=Ii e2 q3 (fun h9=>hbs (by simp[h9])) (fun x hx=>d3 x (by simpa using hx))
 have e4:=Ii e3 q4 (fun h9=>hbs (by simp[h9])) (fun x hx=>d4 x (by simpa using hx))
 have e5:=Ii e4 q5 (fun h9=>hbs (by simp[h9])) (fun x hx=>d5 x (by simpa using hx))
 have e6:=Ii e5 q6 (fun h9=>hbs (by simp[h9])) (fun x hx=>d6 x (by simpa using hx))
 exact⟨_,⟨_,_,_,_,_,_,_,l1,l2,l3,l4,l5,l6,h0,p1,p2,p3,p4,p5,p6,rfl⟩,by simpa using e6⟩
theorem a2m {lo hi:Nat} {w:World} {v:Value} {ks:List ak} {bs:List Nat} (h:C9 uj oh w v ks bs) (hnd:bs.Nodup) (hb:∀c,c∈bs->lo<=c∧c<hi):∃l,Dk 7 Uj lo hi w v ks l∧Good bs l w :=
 h.lat rfl (fun _=>rfl) hnd hb (fun cs x s b o hr h8 hs h9=>a1q hr h8 hs h9)
end Go.Proofs.YtlcgnbcgmljpaaaGreat
