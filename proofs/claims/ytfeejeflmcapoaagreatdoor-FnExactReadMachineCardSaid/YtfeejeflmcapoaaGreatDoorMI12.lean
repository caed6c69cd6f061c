import Derived.Test.YtfeejeflmcapoaaGreatDoorMI5
set_option linter.unusedSimpArgs false
set_option linter.unusedVariables false
set_option maxHeartbeats 4000000
set_option maxRecDepth 20000
namespace Go.Proofs.YtfeejeflmcapoaaGreatDoor
open Go.RowKit
def PL.app:PL->PL->PL
 | ⟨none⟩,u=>u
 | ⟨some (s, r, none)⟩,u=>.leaf s (r.app u)
 | ⟨some (s, r, some (el, a, en, b))⟩,u=>.br s a el b en (r.app u)
theorem PL.aq1 (t:PL):t.app .nil=t:=by
 induction t using PL.ind with
 | nil=>rfl
 | leaf s r ih=>simp only[PL.app,ih]
 | br s a el b en r _ _ ih=>simp only[PL.app,ih]
theorem PL.avw (t u v:PL):(t.app u).app v=t.app (u.app v):=by
 induction t using PL.ind with
 | nil=>rfl
 | leaf s r ih=>simp only[PL.app,ih]
 | br s a el b en r _ _ ih=>simp only[PL.app,ih]
def brF (ks:List dw) (k:dw) (f:Nat) (ss:List lu) (H:List dh) (d kd:Int):Option (PL×lu×List lu):=match Dv ks k f ss H d with
 | some (t,el::r)=>if el.kind=kd/\Dl el=true then some (t,el,r) else none
 | _=>none
def U4 (ks:List dw) (k:dw) (f:Nat) (s:lu) (ss:List lu) (H:List dh) (d:Int):Option (PL×List lu) :=
 if 20<d then none else if Dl s=false then none
 else if s.kind=4 then (if je (varsOf k) s.name<0 then none else match brF ks k f ss (s.name::H) (d+1) 5 with
  | none=>none
  | some (a,el,r1)=>match brF ks k f r1 (s.name::H) (d+1) 6 with
   | none=>none
   | some (b,en,r2)=>some (.br s a el b en .nil,r2))
 else if Y2 ks k H s=false then none else some (.leaf s .nil,ss)
def glue (t:PL) (o:Option (PL×List lu)):Option (PL×List lu):=o.map (fun p=>(t.app p.1,p.2))
theorem avx {kd:Int} (x:lu) (h:¬(x.kind=kd/\Dl x=true)):x.kind≠kd\/Dl x=false:=by
 cases hu:Dl x
 ·exact Or.inr rfl
 ·exact Or.inl (fun e=>h ⟨e,hu⟩)
theorem ata (ks:List dw) (k:dw) (f:Nat) (s:lu) (r:List lu) (H:List dh) (d:Int) (h:s.kind=5\/s.kind=6):Dv ks k (f+1) (s::r) H d=some (.nil,s::r):=by rw[Dv,gy h]
theorem avy (ks:List dw) (k:dw) (f:Nat) (s:lu) (ss:List lu) (H:List dh) (d:Int) (h:¬(s.kind=5\/s.kind=6)):Dv ks k (f+1) (s::ss) H d=match U4 ks k f s ss H d with
  | none=>none
  | some (i,r)=>glue i (Dv ks k f r H d):=by
 rw[Dv,bf h];unfold U4
 by_cases h1:20<d
 ·rw[gy h1,gy h1]
 rw[bf h1,bf h1]
 by_cases h2:Dl s=false
 ·rw[gy h2,gy h2]
 rw[bf h2,bf h2]
 by_cases h4:s.kind=4
 ·rw[gy h4,gy h4]
  by_cases hp:je (varsOf k) s.name<0
  ·rw[gy hp,gy hp]
  rw[bf hp,bf hp];unfold brF
  cases h5:Dv ks k f ss (s.name::H) (d+1) with
  | none=>rfl
  | some q =>
   obtain⟨a,r⟩:=q
   cases r with
   | nil=>rfl
   | cons el r1 =>
    simp only
    by_cases he:el.kind=5/\Dl el=true
    ·rw[bf (by rw[he.1,he.2];simp),gy he]
     simp only
     cases h6:Dv ks k f r1 (s.name::H) (d+1) with
     | none=>rfl
     | some q =>
      obtain⟨b,r⟩:=q
      cases r with
      | nil=>rfl
      | cons en r2 =>
       simp only
       by_cases hn:en.kind=6/\Dl en=true
       ·rw[bf (by rw[hn.1,hn.2];simp),gy hn]
        simp only
        cases Dv ks k f r2 H d with
        | none=>rfl
        | some q=>rfl
       ·rw[bf hn,gy (avx en hn)]
    ·rw[bf he,gy (avx el he)]
 ·rw[bf h4,bf h4]
  cases hl:Y2 ks k H s
  ·simp
  ·simp only[Bool.true_eq_false,if_false]
   cases Dv ks k f ss H d with
   | none=>rfl
   | some q=>rfl
def ah6:Fj Tryz.prog (TypeId×Nat) where
 T:=200
 ST:=125
 sz:=1
 uf:=16
 f:=fun x=>[.iface x.1 (.pointer (some ⟨x.2,0,none⟩))]
 z:=.nilIface
 hT:=Tryz.underlying125
 hi:=by kernel_rfl
 hz:=rfl
 hf:=fun _=>rfl
 h1:=fun c u hu=>by
  simp only[qj,xq,xu] at hu;rcases hu with rfl;rfl
 hsz:=by decide
 hby:=by decide
theorem jq.but {P:Program} {α:Type} {E:Fj P α} {S:List Nat} {w w':cu} {base:Nat} {v:Value} {xs:List α} (h:jq E w base v xs) (hb:But S w w') (hs:∀k,k∈S->k<base):jq E w' base v xs:=by
 obtain⟨h1,h2⟩:=h;refine⟨h1,?_⟩;rcases h2 with h2|⟨g,cap,cur,hv,hg,hh,r⟩
 ·exact Or.inl h2
 ·exact Or.inr ⟨g,cap,cur,hv,hg,(hb.block g (Kv.1 hh).1 (fun e=>by have:=hs g e;omega)).trans hh,r⟩
theorem avz {w:cu} {base:Nat} {v:Value} {xs:List (TypeId×Nat)} (h:jq ah6 w base v xs) (hn:xs.length<=30000):jc 1 16 RIf 0 w v xs :=
 h.at (E:=ah6) (R:=RIf) (fun x _=>rfl) (by simp[ah6];omega)
theorem qp.app {X:BD} {P:Nat->Prop} {w:cu}:∀(t u:PL) (n m:List (TypeId×Nat)),qp X P w t n->qp X P w u m->qp X P w (t.app u) (n++m):=by
 intro t
 induction t using PL.ind with
 | nil=>intro u n m h1 h2;cases h1;exact h2
 | leaf s r ih =>
  rintro u n m ⟨x,ns',rfl,h2,h3,h4⟩ h5;exact⟨x,ns'++m,rfl,h2,h3,ih u _ _ h4 h5⟩
 | br s a el b en r _ _ ih =>
  rintro u n m ⟨x,ns',fv,sv,na,nb,rfl,h2,h3,h4,h5,h6,h7,h8,h9⟩ hu;exact⟨x,ns'++m,fv,sv,na,nb,rfl,h2,h3,h4,h5,h6,h7,h8,ih u _ _ h9 hu⟩
theorem Zu {P:Program} {w:cu} (base:Nat) (t ty e:TypeId) (i:TypeInfo) (z:Value) (size bytes:Nat) (ht:P.underlying t=some (.slice e)) (hi:P.info? e=some i) (hz:i.zero=some z)
  (hsize:i.size=size) (hby:i.bytes=bytes) (hzs:z.cells.size=size) (hsz:0<size)
  (v:Value) (n:Nat) (xs:List Value) (hown:w.ownsRow base e size v n xs)
  (a:Addr) (m c:Nat) (news:List Value) (hl:news.length=m*size) (hnews:∀j u,news[j]?=some u->w.cell? (a.add j)=some u) (h1:∀u∈news,u.oneCell'=true)
  (h63:n+m<=maxLen) (hbytes:(n+m)*bytes<=140737488355328) (hbase:base<=w.heap.size) :
  ∃v' w',(Builtin.append_ #[t,t] ty #[v,.slice (some a) m c]).run P w=.ok v' w'/\w'.ownsRow base e size v' (n+m) (xs++news)/\w.grownBy w' v.ownBlock/\(∀b,v'.ownBlock=some b->v.ownBlock=some b\/w.heap.size<=b):=by
 obtain⟨v',w',hr,h2,h3,_⟩:=run_append_own (P:=P) w base t ty e i z size bytes ht hi hz hsize hby hzs hsz v n xs hown a m c news hl hnews h1 h63 hbytes hbase;refine⟨v',w',hr,h2,h3,fun b hb=>?_⟩;rcases hown.2 with ⟨rfl,rfl⟩|⟨g,cap,cur,rfl,hbg,hg,hnc,hcm,hcs,htake⟩
 ·have hown2:w.ownsRow w.heap.size e size (.slice none 0 0) 0 xs:=⟨hown.1,Or.inl ⟨rfl,rfl⟩⟩
  obtain⟨v2,w2,hr2,h4,_,_⟩:=run_append_own (P:=P) w w.heap.size t ty e i z size bytes ht hi hz hsize hby hzs hsz _ 0 xs hown2 a m c news hl hnews h1 h63 hbytes (gu _);rw[hr] at hr2;injection hr2 with e1 e2;subst e1 e2;exact Or.inr (h4.lt b hb).1
 ·subst hsize
  by_cases hroom:n+m<=cap
  ·have hfit:n*i.size+news.length<=cur.size:=by rw[hl,hcs,←Nat.add_mul];exact Nat.mul_le_mul_right _ hroom
   have hr2:=run_append_room (P:=P) w t ty e i ht hi g n cap cur hg a m c news hl hnews h1 hroom hfit;rw[hr] at hr2;injection hr2 with e1 e2;subst e1;exact Or.inl hb
  ·have holds:∀j u,xs[j]?=some u->w.cell? ((⟨g,0,none⟩:Addr).add j)=some u:=hown.cells (g:=g) rfl
   have hsmall:n+m<=9223372036854775807:=by simp only[maxLen] at h63;omega
   have hr2:=run_append_grow (P:=P) w t ty e i z ht hi hz ⟨g,0,none⟩ n cap xs hown.1 holds a m c news hl hnews (by omega) (by omega) (growslice_fits (by omega) (by rw[hby];exact hbytes));rw[hr] at hr2;injection hr2 with e1 e2;subst e1;simp only[Value.ownBlock,uw] at hb;exact Or.inr (by omega)
theorem La {P:Program} {α:Type} (E:Fj P α) (w:cu) {ops:Array Oper} {rest:List Oper} {o:Oper} {a:Act} {Q:Exit->Act->cu->Prop} (hgd:o.guard=none) (s x:Operand)
  (ho:o.op=.call { callee:=.builtin .append,args:=#[s,x],argTypes:=#[E.ST,E.ST] })
  (base:Nat) (v:Value) (xs:List α) (hs:a.eval s=v) (hown:jq E w base v xs)
  (eb:Nat) (y:α) (hx:a.eval x=.slice (some ⟨eb,0,none⟩) 1 1) (hy:∀j u,(E.f y)[j]?=some u->w.cell? ⟨eb,j,none⟩=some u) (hb:(xs.length+1)*E.uf<=140737488355328) (hbase:base<=w.heap.size)
  (h:∀v' w',jq E w' base v' (xs++[y])->w.grownBy w' v.ownBlock->(∀b,v'.ownBlock=some b->v.ownBlock=some b\/w.heap.size<=b)->wpList P ops Q rest (a.put o.dst v') w'):wpList P ops Q (o::rest) a w:=by
 obtain⟨i,hi,hz0,hz1,hz2⟩:=info_parts E.hi;have hlen:xs.length+1<=140737488355328:=ku (Xa _ E.hby) hb;obtain⟨v',w',hr,h2,h3,h4⟩:=Zu (P:=P) (w:=w) base E.ST o.type E.T i _ E.sz E.uf E.hT hi hz0 hz1 hz2 E.hz E.hsz v xs.length (xs.flatMap E.f) hown ⟨eb,0,none⟩ 1 1 (E.f y) (by rw[E.hf];omega) (fun j u hu=>by rw[Addr.add_lit,Ba];exact hy j u hu) (E.h1 y) (by simp[maxLen];omega) hb hbase;refine wpList_plain hgd fun K hK=>?_
 unfold Oper.wp execOp;simp only[ho,resolve,invoke,builtin,Sem.run_bind,Sem.run_pure,Result.andThen_ok,List.map_toArray,Ai,Fv,hs,hx,hr];refine hK _ _ (h v' w' ?_ h3 h4);unfold jq;rw[jh,List.flatMap_append];simpa using h2
abbrev Wx (X:BD):List Nat:=[X.bb,X.hb,X.gb]
theorem BE.inS {X:BD} (hE:BE X):∀k,k∈Wx X->X.W0.heap.size<=k/\k<X.lo:=fun k hk=>by
 simp only[Wx,qj,xq,xu] at hk;rcases hk with rfl|rfl|rfl
 ·exact hE.nb
 ·exact hE.nh
 ·exact hE.ng
def afw (X:BD) (H:List dh) (w:cu) (o:Option (PL×List lu)) (e:Ending) (w':cu):Prop:=match o with
 | none=>e=.returned (.tuple #[.slice none 0 0,.bool false])/\Below X.W0.heap.size X.W0 w'
 | some (t,rest)=>∃v nodes,e=.returned (.tuple #[v,.bool true])/\(jc 1 16 RIf 0 w' v nodes/\∀b,v.ownBlock=some b->New w.heap.size w'.heap.size b)/\qp X (New w.heap.size w'.heap.size) w' t nodes/\BS X w' H (X.k.body.length-rest.length)/\But (Wx X) w w'/\rest=X.k.body.drop (X.k.body.length-rest.length)
def Zv (X:BD) (f:Nat):Prop:=∀(H:List dh) (nx:Nat) (d:Int) (w:cu),BS X w H nx->X.k.body.length-nx<f->0<=d->d<=21->(H.length:Int)<=d ->
 Calls Tryz.prog 151 #[.pointer (some ⟨X.bb,0,none⟩),.int .i64 d] w (afw X H w (Dv X.ks X.k f (X.k.body.drop nx) H d))
def a7f (X:BD) (H:List dh) (w:cu) (o:Option (PL×lu×List lu)) (e:Ending) (w':cu):Prop:=match o with
 | none=>(∃v,e=.returned (.tuple #[v,.bool false]))/\Below X.W0.heap.size X.W0 w'
 | some (t,_,rest)=>∃v nodes,e=.returned (.tuple #[v,.bool true])/\(jc 1 16 RIf 0 w' v nodes/\∀b,v.ownBlock=some b->New w.heap.size w'.heap.size b)/\qp X (New w.heap.size w'.heap.size) w' t nodes/\BS X w' H (X.k.body.length-rest.length)/\But (Wx X) w w'/\rest=X.k.body.drop (X.k.body.length-rest.length)
def Tf (X:BD) (H:List dh) (w:cu) (o:Option (PL×List lu)) (e:Ending) (w':cu):Prop:=match o with
 | none=>e=.returned .nilIface/\Below X.W0.heap.size X.W0 w'
 | some (i,rest)=>∃x:TypeId×Nat,e=.returned (.iface x.1 (.pointer (some ⟨x.2,0,none⟩)))/\qp X (New w.heap.size w'.heap.size) w' i [x]/\BS X w' H (X.k.body.length-rest.length)/\But (Wx X) w w'/\rest=X.k.body.drop (X.k.body.length-rest.length)
theorem L9.st {X:BD} (hE:BE X) {H:List dh} {nx:Nat} {w w':cu} {s:lu} {ok:Bool} {e:Ending} (h:L9 X H nx w s ok e w') (hlo:X.lo<=w.heap.size) (hnx:nx<=X.k.body.length) {f:Nat} {d:Int} (hs:U4 X.ks X.k f s (X.k.body.drop nx) H d=if ok=false then none else some (.leaf s .nil,X.k.body.drop nx)):Tf X H w (U4 X.ks X.k f s (X.k.body.drop nx) H d) e w':=by
 obtain⟨h1,h2,h3,h4⟩:=h;rw[hs]
 cases ok
 ·rw[gy rfl]
  exact⟨h2 rfl,h4.old⟩
 ·rw[bf (by decide)]
  obtain⟨x,hx1,hx2,hx3⟩:=h1 rfl;have hl:X.k.body.length-(X.k.body.drop nx).length=nx:=by rw[Cc];omega
  refine⟨x,hx1,⟨x,[],rfl,hx2,hx3,rfl⟩,by rw[hl];exact h4,h3.mono (fun k hk=>Or.inl (by rw[yt] at hk;subst hk;simp[Wx])),by rw[hl]⟩
def W9:Fj Tryz.prog Int where
 T:=21
 ST:=124
 sz:=1
 uf:=4
 f:=fun t=>[.int .i32 t]
 z:=.int .i32 0
 hT:=Tryz.underlying124
 hi:=by kernel_rfl
 hz:=rfl
 hf:=fun _=>rfl
 h1:=fun c u hu=>by
  simp only[qj,xq,xu] at hu;rcases hu with rfl;rfl
 hsz:=by decide
 hby:=by decide
def Xk:Fj Tryz.prog (Nat×Nat) where
 T:=176
 ST:=123
 sz:=2
 uf:=16
 f:=fun t=>[.pointer (some ⟨t.1,0,none⟩),.int .i64 t.2]
 z:=.agg #[.pointer none,.int .i64 0]
 hT:=Tryz.underlying123
 hi:=by kernel_rfl
 hz:=rfl
 hf:=fun _=>rfl
 h1:=fun c u hu=>by
  simp only[qj,xq,xu] at hu;rcases hu with rfl|rfl<;>rfl
 hsz:=by decide
 hby:=by decide
def acj:Fj Tryz.prog Nat where
 T:=121
 ST:=97
 sz:=1
 uf:=8
 f:=fun t=>[.pointer (some ⟨t,0,none⟩)]
 z:=.pointer none
 hT:=Tryz.underlying97
 hi:=by kernel_rfl
 hz:=rfl
 hf:=fun _=>rfl
 h1:=fun c u hu=>by
  simp only[qj,xq,xu] at hu;rcases hu with rfl;rfl
 hsz:=by decide
 hby:=by decide
def ac3 (_:Nat) (_:cu) (cs:List Value) (x:Int):Prop:=cs=[.int .i32 x]
def akh (_:Nat) (_:cu) (cs:List Value) (x:Nat):Prop:=cs=[.pointer (some ⟨x,0,none⟩)]
theorem alx:P9 ac3:=fun _ _ _ _ _ _ h=>h
theorem anx:∀(w w':cu) (cs:List Value) (x:Int),ac3 0 w cs x->ac3 0 w' cs x:=fun _ _ _ _ h=>h
theorem Dn {P:Program} {α:Type} (E:Fj P α) (w:cu) (ty:TypeId) (base:Nat) (v:Value) (xs:List α) (hown:jq E w base v xs)
  (eb:Nat) (y:α) (hy:∀j u,(E.f y)[j]?=some u->w.cell? ⟨eb,j,none⟩=some u) (hb:(xs.length+1)*E.uf<=140737488355328) (hbase:base<=w.heap.size) :
  ∃v' w',(Builtin.append_ #[E.ST,E.ST] ty #[v,.slice (some ⟨eb,0,none⟩) 1 1]).run P w=.ok v' w'/\jq E w' base v' (xs++[y])/\w.grownBy w' v.ownBlock/\(∀b,v'.ownBlock=some b->v.ownBlock=some b\/w.heap.size<=b):=by
 obtain⟨i,hi,hz0,hz1,hz2⟩:=info_parts E.hi;have hlen:xs.length+1<=140737488355328:=ku (Xa _ E.hby) hb;obtain⟨v',w',hr,h2,h3,h4⟩:=Zu (P:=P) (w:=w) base E.ST ty E.T i _ E.sz E.uf E.hT hi hz0 hz1 hz2 E.hz E.hsz v xs.length (xs.flatMap E.f) hown ⟨eb,0,none⟩ 1 1 (E.f y) (by rw[E.hf];omega) (fun j u hu=>by rw[Addr.add_lit,Ba];exact hy j u hu) (E.h1 y) (by simp[maxLen];omega) hb hbase;refine⟨v',w',hr,?_,h3,h4⟩;unfold jq;rw[jh,List.flatMap_append];simpa using h2
theorem aki {P:Program} {α:Type} (E:Fj P α) {R:Nat->cu->List Value->α->Prop} (hRf:∀w cs x,R 0 w cs x->cs=E.f x) (w:cu) (ty:TypeId)
  (base g cap:Nat) (xs:List α) (hown:jq E w base (.slice (some ⟨g,0,none⟩) xs.length cap) xs)
  (xv:Value) (ys:List α) (hsl:jc E.sz E.uf R 0 w xv ys) (hb:(xs.length+ys.length)*E.uf<=140737488355328) (hbase:base<=w.heap.size) :
  ∃g' cap' w',(Builtin.append_ #[E.ST,E.ST] ty #[.slice (some ⟨g,0,none⟩) xs.length cap,xv]).run P w=.ok (.slice (some ⟨g',0,none⟩) (xs.length+ys.length) cap') w'/\jq E w' base (.slice (some ⟨g',0,none⟩) (xs.length+ys.length) cap') (xs++ys)/\w.grownBy w' (some g):=by
 obtain⟨i,hi,hz0,hz1,hz2⟩:=info_parts E.hi;obtain⟨ax,cx,rfl,_,hn,hel⟩:=hsl;have hlen:xs.length+ys.length<=140737488355328:=ku (Xa _ E.hby) hb
 have hcap:xs.length<=cap:=by
  rcases hown.shape with ⟨hh,_⟩|⟨g1,cap1,hv,_,_,h2⟩
  ·cases hh
  ·simp only[qw] at hv
   obtain⟨_,_,rfl⟩:=hv;exact h2
 cases ax with
 | none =>
  have hy:ys=[]:=by
   cases ys with
   | nil=>rfl
   | cons y ys =>
    obtain⟨b,o,cs,Fe,_⟩:=hel 0 (by simp)
    cases Fe
  subst hy;have hrun:=run_append_room_src (P:=P) w E.ST E.ST ty E.T i E.hT hi g 0 xs.length cap (.slice none 0 cx) 0 [] (Src.ofNil w E.hT cx) (by omega) (fun j hj=>by simp at hj) (fun j hj=>by simp at hj);have hsc:w.setCells g (0+xs.length*i.size) []=w:=by simp[World.setCells]
  rw[hsc] at hrun;exact⟨g,cap,w,by simpa using hrun,by simpa using hown,World.grownBy.refl w _⟩
 | some ad =>
  have hcellA:∀j u,(ys.flatMap E.f)[j]?=some u->w.cell? (ad.add j)=some u:=fun j u hu=>by
   have hj:j<ys.length*E.sz:=by
    have:=(List.getElem?_eq_some_iff.1 hu).1;rwa[Rl E.f E.sz E.hf] at this
   have hsz:=E.hsz;have hdiv:j / E.sz<ys.length:=Nat.div_lt_of_lt_mul (by rw[Nat.mul_comm];exact hj);have hmod:j % E.sz<E.sz:=Nat.mod_lt _ hsz;have hjj:j / E.sz*E.sz+j % E.sz=j:=by rw[Nat.mul_comm];exact Nat.div_add_mod j E.sz
   obtain⟨b,oo,cs,Fe,_,_,hl,hc,hR⟩:=hel (j / E.sz) hdiv;simp only[uw] at Fe;subst Fe;have ecs:=hRf _ _ _ hR;subst ecs;have hg:=flat_get E.f E.sz E.hf ys (j / E.sz) hdiv (j % E.sz) hmod;rw[hjj,hu] at hg;obtain⟨hjl,hju⟩:=List.getElem?_eq_some_iff.1 hg.symm;have hcc:=hc (j % E.sz) hjl;rw[hju] at hcc;rw[Addr.add_lit,←hcc];congr 2;omega
  obtain⟨v',w',hr,h1,h2,h3⟩:=run_append_own (P:=P) w base E.ST ty E.T i _ E.sz E.uf E.hT hi hz0 hz1 hz2 E.hz E.hsz _ xs.length (xs.flatMap E.f) hown ad ys.length cx (ys.flatMap E.f) (Rl E.f E.sz E.hf ys) hcellA (fun u hu=>by obtain⟨y,_,hy⟩:=List.mem_flatMap.1 hu;exact E.h1 y u hy) (by simp[maxLen];omega) hb hbase;obtain⟨hl,hh⟩:=h1;rcases hh with ⟨rfl,_⟩|⟨g',cap',cur,rfl,hrr⟩
  ·have:=h3.1 rfl
   cases this.1
  ·refine⟨g',cap',w',hr,⟨?_,Or.inr ⟨g',cap',cur,by rw[jh],?_⟩⟩,h2⟩
   ·rw[jh,List.flatMap_append]
    exact hl
   ·rw[jh,List.flatMap_append]
    exact hrr
def adq (xs:List Int) (i:Nat) (cs:Array Value):Prop:=cs.size=xs.length/\∀j (hj:j<xs.length),j<i->cs[j]?=some (.int .i32 xs[j])
theorem adq.next {xs:List Int} {i:Nat} {cs:Array Value} (h:adq xs i cs) (hi:i<xs.length):adq xs (i+1) (cs.setIfInBounds i (.int .i32 xs[i])):=by
 refine⟨by rw[Array.size_setIfInBounds];exact h.1,fun j hj hji=>?_⟩;rw[Array.getElem?_setIfInBounds]
 by_cases e:i=j
 ·subst e
  rw[gy rfl,gy (by rw[h.1];exact hi)]
 ·rw[bf e]
  exact h.2 j hj (by omega)
theorem a7g (xs:List Int):xs.flatMap W9.f=xs.map (fun x=>Value.int .i32 x):=by
 induction xs with
 | nil=>rfl
 | cons x xs ih=>rw[List.flatMap_cons,ih];rfl
theorem ay9 (x:Int) (h:Qq x=true):IntKind.i32.wrap x=x:=by
 unfold Qq at h;have h:=xw h;rw[IntKind.wrap_i32];omega
theorem aqx (v:Int):Wy v=Qq v:=by
 rw[Oa];unfold Wy Qq;rw[Ey,D8,IntKind.wrap_i32];omega
theorem adq.own {xs:List Int} {cs:Array Value} {w:cu} {g base:Nat} (h:adq xs xs.length cs) (hb:jd w g 21 cs) (hg:base<=g) (hn:xs.length<=1000000):jq W9 w base (.slice (some ⟨g,0,none⟩) xs.length xs.length) xs:=by
 have e:cs.toList=xs.map (fun x=>Value.int .i32 x):=by
  apply List.ext_getElem?;intro i
  by_cases hi:i<xs.length
  ·rw[Array.getElem?_toList,h.2 i hi hi,List.getElem?_map,jy hi]
   rfl
  ·rw[List.getElem?_eq_none (by rw[Array.length_toList,h.1];omega),List.getElem?_eq_none (by rw[zy];omega)]
 have e2:=a7g xs;refine⟨by rw[e2,zy];simp[W9],Or.inr ⟨g,xs.length,cs,rfl,hg,hb,gu _,by simp[maxLen];omega,by rw[h.1];simp[W9],?_⟩⟩;rw[e,e2];exact P8 (by simp[W9])
theorem av1 (xs:List Int) (v:Value) (w:cu) (hv:jc 1 8 Jv 0 w v xs) (hr:∀x,x∈xs->Qq x=true) (hn:xs.length<=1000000) :
  Calls Tryz.prog 150 #[v] w fun e w'=>∃g,e=.returned (.slice (some ⟨g,0,none⟩) xs.length xs.length)/\jq W9 w' w.heap.size (.slice (some ⟨g,0,none⟩) xs.length xs.length) xs/\Below w.heap.size w w':=by
 obtain⟨a,cap,rfl,_,hnl,hx⟩:=hv;have HX:=ak hx;have HR:=ak hr
 have hmk:(Instr.makeSlice 124 (.int .i64 (xs.length:Int)) (.int .i64 (xs.length:Int))).run Tryz.prog w=.ok (.slice (some ⟨w.heap.size,0,none⟩) xs.length xs.length) (w.alloc (.cells (madeCells #[.int .i32 0] xs.length) 21)):=by
  have h9:=aaq (P:=Tryz.prog) 124 21 (.int .i32 0) 1 4 Tryz.underlying124 (by kernel_rfl) xs.length (by omega) (by omega) w;rw[jr] at h9;exact h9
 have HB0:Hid (Below w.heap.size w (w.alloc (.cells (madeCells #[.int .i32 0] xs.length) 21))):=(iq _ _).alloc (gu _) _;have HK0:Hid (jd (w.alloc (.cells (madeCells #[.int .i32 0] xs.length) 21)) w.heap.size 21 (madeCells #[.int .i32 0] xs.length)):=oh w _ _;clear hx hr hnl;go_enter Tryz.func150,Tryz.ntmps150;go_wp2;generalize w.alloc (.cells (madeCells #[.int .i32 0] xs.length) 21)=w0 at *
 go_loopg [11] xs.length (fun g iv wr=>∃(i:Nat) (cs:Array Value),i<=xs.length/\g=xs.length-i/\iv=.int .i64 i/\adq xs i cs/\jd wr w.heap.size 21 cs/\Below w.heap.size w wr)
 case atStart=>exact⟨0,_,jg _,by omega,rfl,⟨by rw[size_madeCells],fun j _ hj=>absurd hj (yu _)⟩,uh HK0,uh HB0⟩
 case round =>
  clear HB0 HK0 hmk;obtain⟨i,cs,hi,hg,rfl,hf,hk,hbl⟩:=hrel;rename cu=>wr;have HG:=ak hg;have HF:=ak hf;have HK:=ak hk;have Ae:=ak hbl;clear hg hf
  by_cases hlt:i<xs.length
  ·obtain⟨b,o,c1,rfl,_,hb,_,hc,⟨rfl,hi64⟩⟩:=uh HX i hlt
   have c0:=(hbl.cell (p:=⟨b,_,none⟩) hb).trans (hc 0 (by simp));simp only[jr,ji,og] at c0;have hval:=uh HR _ (o7 hlt);have hwr:=ay9 _ hval;obtain⟨ru,hru⟩:∃u,cs[i]?=some u:=⟨_,Array.getElem?_eq_getElem (by rw[(uh HF).1];exact hlt)⟩;have rc:=hk.cell hru;have rz:=hk.free i;have Yy:(i:Int)<(xs.length:Int):=by omega
   have Oc:=ak ((uh HF).next hlt)
   clear hc hru hk hbl hval;generalize xs[i]=x at *;go_wp2
   go_roundg (xs.length-(i+1))
   case measure=>have:=uh HG;omega
   case rel=>exact⟨i+1,_,by omega,rfl,by go_num,uh Oc,(uh HK).set i _,(uh Ae).setCell (gu _) _⟩
  ·have e:i=xs.length:=by omega
   subst e;go_wp2;go_ret;exact⟨w.heap.size,rfl,(uh HF).own (uh HK) (gu _) hn,uh Ae⟩
theorem BS.move {X:BD} (hE:BE X) {w:cu} {H:List dh} {nx:Nat} (h:BS X w H nx) (hn:nx<X.k.body.length):BS X (w.setCell ⟨X.bb,1,none⟩ (.int .i64 ((nx:Int)+1))) H (nx+1)/\GS X (w.setCell ⟨X.bb,1,none⟩ (.int .i64 ((nx:Int)+1))) (nx+1)/\But (Wx X) w (w.setCell ⟨X.bb,1,none⟩ (.int .i64 ((nx:Int)+1))):=by
 obtain⟨gv,g1,g2,g3⟩:=h.gl;have hb:But (Wx X) w (w.setCell ⟨X.bb,1,none⟩ (.int .i64 ((nx:Int)+1))):=(But.refl _ _).abd (by simp[Wx]) _;have hbl:=h.bl.set 1 (.int .i64 ((nx:Int)+1));have e:(anz X nx).setIfInBounds 1 (.int .i64 ((nx:Int)+1))=anz X (nx+1):=rfl;rw[e] at hbl;have hg3:=g3.other (p:=⟨X.bb,1,none⟩) (Ne.symm hE.bg) (.int .i64 ((nx:Int)+1));exact⟨⟨h.old.trans (hb.below _ h.old.size (fun k hk=>(hE.inS k hk).1)),ku h.lo hb.size,hn,hbl,h.hl.other (Ne.symm hE.bh) _,gv,g1,(fun x hx=>by have:=g2 x hx;omega),hg3⟩,⟨gv,g1,(fun x hx=>by have:=g2 x hx;omega),hg3⟩,hb⟩
theorem av2 (X:BD) (hE:BE X) (f:Nat) (hL:Zv X f) (H:List dh) (nx:Nat) (d kd:Int) (w:cu) (hS:BS X w H nx) (hf:X.k.body.length-nx<f) (hd:0<=d) (hd2:d<=21) (hH:(H.length:Int)<=d) :
  Calls Tryz.prog 188 #[.pointer (some ⟨X.bb,0,none⟩),.int .i64 d,.int .i64 kd] w (a7f X H w (brF X.ks X.k f (X.k.body.drop nx) H d kd)):=by
 have HL:=ak (hL H nx d w hS hf hd hd2 hH)
 have HB:Hid (brF X.ks X.k f (X.k.body.drop nx) H d kd=match Dv X.ks X.k f (X.k.body.drop nx) H d with
  | some (t,el::r)=>if el.kind=kd/\Dl el=true then some (t,el,r) else none
  | _=>none):=rfl
 generalize brF X.ks X.k f (X.k.body.drop nx) H d kd=R at *;generalize Dv X.ks X.k f (X.k.body.drop nx) H d=o at *;have HE:=ak hE;have HLO:=ak hS.lo;clear hS hL hf hH
 cases o with
 | none =>
  have e:R=none:=uh HB;subst e;clear HB;go_enter Tryz.func188,Tryz.ntmps188;go_wp2_with fail;refine(uh HL).mono ?_;rintro e w1 ⟨rfl,hb1⟩;have HB1:=ak hb1;clear hb1;go_wp2_with fail;go_quiet ((fail));go_wp2
  go_ret2
  exact⟨⟨_,rfl⟩,below_drewN (uh HB1) _⟩
 | some q =>
  obtain⟨t,rest⟩:=q
  cases rest with
  | nil =>
   have e:R=none:=uh HB;subst e;clear HB;go_enter Tryz.func188,Tryz.ntmps188;go_wp2_with fail;refine(uh HL).mono ?_;rintro e w1 ⟨v,nodes,rfl,⟨hv,_⟩,hn,hbs,hbt,_⟩;have HB1:=ak hbs.old;rw[Ar,Nat.sub_zero] at hbs;obtain⟨b0,b1,b2,b3,p0,p1,p2,c1,c4,c6⟩:=hbs.cells (uh HE);obtain⟨ba,bc,hba⟩:=(uh HE).cls.body.shape;have hbl:=(uh HE).bl;rw[hba] at c6;obtain⟨va,vc,rfl⟩:=hv.shape;have e1:((X.k.body.length:Int)==(X.k.body.length:Int))=true:=by simp
   clear hbs hbt hn hv hba b2 b3 p1 p2 c1 c4;go_wp2_with fail;go_quiet ((fail));go_wp2
   go_ret2
   exact⟨⟨_,rfl⟩,below_drewN (uh HB1) _⟩
  | cons el r1 =>
   have HB2:Hid (R=if el.kind=kd/\Dl el=true then some (t,el,r1) else none):=uh HB;clear HB;go_enter Tryz.func188,Tryz.ntmps188;go_wp2_with fail;refine(uh HL).mono ?_;rintro e w1 ⟨v,nodes,rfl,⟨hv,hvb⟩,hn,hbs,hbt,hrest⟩;have HVB:=ak hvb;clear hvb;obtain⟨va,vc,rfl⟩:=hv.shape;have hnodes:=hv.Ob;have hbl:=(uh HE).bl
   have hne:(el::r1).length<=X.k.body.length:=by
    have:=ni List.length hrest;rw[Cc] at this;omega
   rw[ug] at hne hrest hbs;have hm:X.k.body.length-(r1.length+1)<X.k.body.length:=by omega
   have hr:X.k.body.drop (X.k.body.length-(r1.length+1))=X.k.body[X.k.body.length-(r1.length+1)]::X.k.body.drop (X.k.body.length-(r1.length+1)+1):=List.drop_eq_getElem_cons hm;rw[hr,List.cons.injEq] at hrest;obtain⟨hel,hr1⟩:=hrest;have hm2:X.k.body.length-(r1.length+1)+1=X.k.body.length-r1.length:=by omega
   rw[hm2] at hr1;obtain⟨sb,so0,ov,cv,av,⟨bn,bc,hba⟩,hSA⟩:=aq2 (uh HE).cls.body _ hm;rw[←hel] at hSA
   have hbn:bn=X.k.body.length:=by
    obtain⟨_,_,h9⟩:=(uh HE).cls.body.shape;rw[hba] at h9;simp only[qw] at h9;exact h9.2.1
   subst hbn;generalize hmm:X.k.body.length-(r1.length+1)=m at *;obtain⟨b0,b1,b2,b3,p0,p1,p2,c1,c4,c6⟩:=hbs.cells (uh HE);rw[hba] at c6;have Rw:=ak hbs;have L6:=ak hbt;have HV:=ak hv;have HN:=ak hn;have HR1:=ak hr1;have HM2:=ak hm2;have HSA:=ak hSA;have Ws:=ak hba;have hmI:((m:Int)==(X.k.body.length:Int))=false:=by rw[su];omega
   have hmN:(m==X.k.body.length)=false:=by rw[su];omega
   have hmL:(m:Int)<(X.k.body.length:Int):=by omega
   clear hbs hbt hv hn hr1 hm2 hSA hel hr hba hmm;clear b2 b3 p1 p2 c1 c4;go_wp2_with fail;go_quiet ((fail));have Rx:Hid (Below w1.heap.size w1 (w1.drewN nq)):=vk _ _;have ah7:=ak ((uh Rw).stays (uh Rx));generalize w1.drewN nq=w2 at *;obtain⟨b0',b1',b2,b3,p0',p1,p2,c1,c4,c6'⟩:=(uh ah7).cells (uh HE);rw[uh Ws] at c6';clear b0 b1 p0 c6 b2 b3 p1 p2 c1 c4;go_wp2_with fail;go_quiet ((fail));have HK3:Hid (Below w1.heap.size w1 (w2.drewN nq)):=below_drewN (uh Rx) _;have aza:=ak ((uh Rw).stays (uh HK3));generalize w2.drewN nq=w3 at *;have b1:=((uh aza).cells (uh HE)).b1;have bz:=(uh aza).bl.free 1;obtain⟨m1,m2,m3⟩:=(uh aza).move (uh HE) (show m<X.k.body.length by omega);have HM1:=ak m1;have bcq:Hid (But (Wx X) w (w3.setCell ⟨X.bb,1,none⟩ (.int .i64 ((m:Int)+1)))):=(uh L6).trans ((But.of_below (uh HK3)).trans m3);have Y1:Hid (Gi (New w.heap.size w1.heap.size) w1 (w3.setCell ⟨X.bb,1,none⟩ (.int .i64 ((m:Int)+1)))):=(Gi.of_below (uh HK3)).trans (m3.zo (fun k hk h=>by have:=((uh HE).inS k hk).2;have:=h.1;have:=uh HLO;omega));have k0:=((uh HSA).stays rfl (m1.X3 (uh HE))).c0;have HUE:=ak (adr el sb (so0+m*6) ov cv av _ ((uh HSA).stays rfl (m1.X3 (uh HE))));have HUW:Hid (∀w',Below (w3.setCell ⟨X.bb,1,none⟩ (.int .i64 ((m:Int)+1))).heap.size (w3.setCell ⟨X.bb,1,none⟩ (.int .i64 ((m:Int)+1))) w'->Below X.W0.heap.size X.W0 w'):=fun w' hb=>((uh HM1).stays hb).old
   clear b0' b1' p0' c6' m1 m2 m3
   by_cases hkd:el.kind=kd
   case neg =>
    have HF:Hid (R=none):=(uh HB2).trans (bf (fun h=>hkd h.1));have ek:(el.kind==kd)=false:=by rw[su];exact hkd
    clear HB2 hkd;go_wp2
    go_ret2
    rw[uh HF];exact⟨⟨_,rfl⟩,(uh HM1).old⟩
   subst hkd
   cases hu:Dl el
   ·have HF:Hid (R=none):=(uh HB2).trans (bf (fun h=>by rw[hu] at h;cases h.2))
    rw[hu] at HUE;clear HB2 hu;go_wp2_with fail;refine(uh HUE).mono ?_;rintro e w5 ⟨rfl,hb5⟩;have Gx:=ak hb5;clear hb5;go_wp2
    go_ret2
    rw[uh HF];exact⟨⟨_,rfl⟩,uh HUW _ (uh Gx)⟩
   ·have HF:Hid (R=some (t,el,r1)):=(uh HB2).trans (gy ⟨rfl,hu⟩)
    rw[hu] at HUE;clear HB2 hu;go_wp2_with fail;refine(uh HUE).mono ?_;rintro e w5 ⟨rfl,hb5⟩;have Gx:=ak hb5;clear hb5;go_wp2
    go_ret2
    rw[uh HF];have hk5:=(uh Y1).trans (Gi.of_below (uh Gx));have hw5:∀b,New w.heap.size w1.heap.size b->New w.heap.size w5.heap.size b:=fun b h=>⟨h.1,qg h.2 hk5.1⟩
    refine⟨_,nodes,rfl,⟨(uh HV).zo Yf hk5 (uh HVB),fun b hb=>hw5 b (uh HVB b hb)⟩,qp.mono hw5 _ _ (qp.zo hk5 _ _ (uh HN)),?_,(uh bcq).trans (But.of_below (uh Gx)),uh HR1⟩;rw[←uh HM2];exact(uh HM1).stays (uh Gx)
theorem abe (k:dw) (H:List dh):(aan k H).size=(varsOf k).length:=by unfold aan;simp
theorem acn (k:dw) (H:List dh) (i:Nat) (hi:i<(varsOf k).length):(aan k H)[i]?=some (.int .i64 (cnt k H i)):=by unfold aan;simp[hi]
theorem av3 (k:dw) (H H':List dh) (q:Nat) (hq:q<(varsOf k).length) (h1:∀i,i≠q->cnt k H' i=cnt k H i):(aan k H).setIfInBounds q (.int .i64 (cnt k H' q))=aan k H':=by
 apply Array.ext_getElem?;intro i;rw[Array.getElem?_setIfInBounds,abe]
 by_cases e:q=i
 ·subst e
  rw[gy rfl,gy hq,acn k H' q hq]
 ·rw[bf e]
  by_cases hi:i<(varsOf k).length
  ·rw[acn k H i hi,acn k H' i hi,h1 i (fun h=>e h.symm)]
  ·rw[Array.getElem?_eq_none (by rw[abe];omega),Array.getElem?_eq_none (by rw[abe];omega)]
theorem cnt_le (k:dw) (H:List dh) (q:Nat):cnt k H q<=H.length:=List.countP_le_length
theorem BS.av4 {X:BD} (hE:BE X) {w:cu} {H H':List dh} {nx q:Nat} (h:BS X w H nx) (hq:q<(varsOf X.k).length) (h1:∀i,i≠q->cnt X.k H' i=cnt X.k H i) {v:Int} (hv:v=(cnt X.k H' q:Int)):BS X (w.setCell ⟨X.hb,q,none⟩ (.int .i64 v)) H' nx/\But (Wx X) w (w.setCell ⟨X.hb,q,none⟩ (.int .i64 v)):=by
 subst hv;obtain⟨gv,g1,g2,g3⟩:=h.gl;have hb:But (Wx X) w (w.setCell ⟨X.hb,q,none⟩ (.int .i64 (cnt X.k H' q:Int))):=(But.refl _ _).abd (by simp[Wx]) _;have hh:=h.hl.set q (.int .i64 (cnt X.k H' q:Int));rw[av3 X.k H H' q hq h1] at hh;exact⟨⟨h.old.trans (hb.below _ h.old.size (fun k hk=>(hE.inS k hk).1)),ku h.lo hb.size,h.nxl,h.bl.other hE.bh _,hh,gv,g1,g2,g3.other (Ne.symm hE.hg) _⟩,hb⟩
theorem akj {ks:List dw} {k:dw} {f:Nat} {ss:List lu} {H:List dh} {d kd:Int} {t:PL} {el:lu} {r:List lu} (h:brF ks k f ss H d kd=some (t,el,r)):r.length<=ss.length:=by
 unfold brF at h
 split at h
 ·rename_i t' el' r' hl
  split at h
  ·simp only[uw,Prod.mk.injEq] at h
   obtain⟨rfl,rfl,rfl⟩:=h;have:=(ac4 ks k _ _ _ _ _ _ hl).1;rw[this,jh,ug];omega
  ·cases h
 ·cases h
def chF (ks:List dw) (k:dw) (f:Nat) (s:lu) (ss:List lu) (H:List dh) (d:Int):Option (PL×List lu) :=
 if je (varsOf k) s.name<0 then none else match brF ks k f ss (s.name::H) (d+1) 5 with
  | none=>none
  | some (a,el,r1)=>match brF ks k f r1 (s.name::H) (d+1) 6 with
   | none=>none
   | some (b,en,r2)=>some (.br s a el b en .nil,r2)
theorem av5 (X:BD) (hE:BE X) (hkb:∀x,x∈X.known->0<=x/\x<=400001) (f:Nat) (hL:Zv X f) (H:List dh) (nx:Nat) (d:Int) (w:cu) (hS:BS X w H nx) (hf:X.k.body.length-nx<f) (hd:0<=d) (hd2:d<=20) (hH:(H.length:Int)<=d) (s:lu) (sb so:Nat) (ov cv av:Value) (hA:SA X.Wm sb so s ov cv av) :
  Calls Tryz.prog 182 #[.pointer (some ⟨X.bb,0,none⟩),.pointer (some ⟨sb,so,none⟩),.int .i64 d] w (Tf X H w (chF X.ks X.k f s (X.k.body.drop nx) H d)):=by
 have hx':s.name.size<=maxLen:=by have:=hA.name;unfold Len at this;unfold maxLen;omega
 obtain⟨b0,b1,b2,b3,p0,p1,p2,c1,c4,c6⟩:=hS.cells hE;have s1:=(hA.stays rfl (hS.X3 hE)).c1;have HE:=ak hE;have HKK:Hid (∀s,0<=xg X.k.ay X.known s/\xg X.k.ay X.known s<=400001):=fun s=>Ye X.known 400001 (by omega) hkb _
 have hbd:=Xw (varsOf X.k) s.name;have hvl:=hE.vl;clear b1 b3 p0 p2 c1 c4 c6
 by_cases hp:je (varsOf X.k) s.name<0
 ·have hlk:∀n,(Instr.lookup 33 (.map (some X.mb)) (.string s.name) true).run Tryz.prog (w.drewN n)=.ok (.tuple #[.int .i64 0,.bool false]) (w.drewN n):=fun n =>
   Jk.miss (w:=w.drewN n) ((hE.map.below hS.old hE.map.lt).block rfl) Tryz.underlying9 Tryz.underlying33 (Yb _) hx' (ac0 _ _ hp)
  rw[show chF X.ks X.k f s (X.k.body.drop nx) H d=none from gy hp];have HO:=ak hS.old;clear hE hS hp hA hL hf hbd hH hkb HE;go_enter Tryz.func182,Tryz.ntmps182;go_wp2_with fail;go_quiet ((fail));go_wp2;go_ret;exact⟨rfl,below_drewN (uh HO) _⟩
 obtain⟨q,hq⟩:=Ht (show 0<=je (varsOf X.k) s.name by omega);have hqn:q<(varsOf X.k).length:=by omega
 have hlk:∀n,(Instr.lookup 33 (.map (some X.mb)) (.string s.name) true).run Tryz.prog (w.drewN n)=.ok (.tuple #[.int .i64 q,.bool true]) (w.drewN n):=fun n=>by
  have h9:=aeh (varsOf X.k) s.name (by omega);rw[hq] at h9;exact Jk.hit (w:=w.drewN n) ((hE.map.below hS.old hE.map.lt).block rfl) Tryz.underlying9 Tryz.underlying33 (Yb _) hx' h9
 have HCH:Hid (chF X.ks X.k f s (X.k.body.drop nx) H d=match brF X.ks X.k f (X.k.body.drop nx) (s.name::H) (d+1) 5 with
  | none=>none
  | some (a,el,r1)=>match brF X.ks X.k f r1 (s.name::H) (d+1) 6 with
   | none=>none
   | some (b,en,r2)=>some (.br s a el b en .nil,r2)):=bf hp
 generalize chF X.ks X.k f s (X.k.body.drop nx) H d=R at *;have hcl:=cnt_le X.k H q
 have hce:∀i,i≠q->cnt X.k (s.name::H) i=cnt X.k H i:=fun i hi=>by
  rw[an0,hq,bf (by omega),ji]
 have hcq:cnt X.k (s.name::H) q=cnt X.k H q+1:=by rw[an0,hq,gy rfl]
 have HCE:=ak hce;have HCQ:=ak hcq;have HQ:=ak hq;have Ac:=ak hS;have HLO:=ak hS.lo;have HBR:=ak (fun kd nx' w' (h1:BS X w' (s.name::H) nx') (h2:X.k.body.length-nx'<f)=>av2 X hE f hL (s.name::H) nx' (d+1) kd w' h1 h2 (by omega) (by omega) (by rw[ug];omega));have hcb:cnt X.k H q<=20:=by omega
 have HHH:=ak hH;clear hE hS hp hA hL hbd hce hcq hq hcl hkb hH;go_enter Tryz.func182,Tryz.ntmps182;go_wp2_with fail;go_quiet ((fail));have HB1:Hid (Below w.heap.size w (w.drewN nq)):=vk _ _;have Ub:=ak ((uh Ac).stays (uh HB1));generalize w.drewN nq=w1 at *;have h0:=(uh Ub).held q hqn;have hz:=(uh Ub).hl.free q;have b2':=((uh Ub).cells (uh HE)).b2;obtain⟨m1,m2⟩:=(uh Ub).av4 (uh HE) (H':=s.name::H) hqn (uh HCE) (v:=(cnt X.k H q:Int)+1) (by rw[uh HCQ];rfl);have HBC:=ak (uh HBR 5 nx _ m1 hf);have azb:Hid (But (Wx X) w (w1.setCell ⟨X.hb,q,none⟩ (.int .i64 ((cnt X.k H q:Int)+1)))):=(But.of_below (uh HB1)).trans m2;have hqI:(q:Int)<((varsOf X.k).length:Int):=by omega
 have bcr:=ak (uh azb).size;clear m1 m2 b0 p1 s1 b2 hlk;generalize hb5:brF X.ks X.k f (X.k.body.drop nx) (s.name::H) (d+1) 5=o5 at *;have Gx:=ak hb5;clear hb5
 cases o5 with
 | none =>
  have e:R=none:=uh HCH;subst e;clear HCH;go_wp2_with fail;refine(uh HBC).mono ?_;rintro e w2 ⟨⟨v,rfl⟩,hb2⟩;have HB2:=ak hb2;clear hb2;go_wp2;go_ret;exact⟨rfl,uh HB2⟩
 | some q5 =>
  obtain⟨ta,el,r1⟩:=q5
  have atb:Hid (R=match brF X.ks X.k f r1 (s.name::H) (d+1) 6 with
   | none=>none
   | some (b,en,r2)=>some (.br s ta el b en .nil,r2)):=uh HCH
  clear HCH;go_wp2_with fail;refine(uh HBC).mono ?_;rintro e w2 ⟨v1,nd1,rfl,⟨hv1,a7h⟩,hn1,hs2,ht2,hr1⟩;have azc:=ak a7h;clear a7h;obtain⟨va,vc,rfl⟩:=hv1.shape;have hl1:=hv1.Ob
  have hrl:r1.length<=X.k.body.length-nx:=by
   have:=akj (uh Gx);rwa[Cc] at this
  have azd:=ak (uh HBR 6 _ _ hs2 (by omega));rw[←hr1] at azd;have HV1:=ak hv1;have HN1:=ak hn1;have HT2:Hid (But (Wx X) w w2):=(uh azb).trans ht2;clear hv1 hn1 hs2 ht2 hr1 HBC azb b2' h0 hz;generalize hb6:brF X.ks X.k f r1 (s.name::H) (d+1) 6=o6 at *
  cases o6 with
  | none =>
   have e:R=none:=uh atb;subst e;clear atb;go_wp2_with fail;refine(uh azd).mono ?_;rintro e w3 ⟨⟨v,rfl⟩,hb3⟩;have HB3:=ak hb3;clear hb3;go_wp2;go_ret;exact⟨rfl,uh HB3⟩
  | some q6 =>
   obtain⟨tb,en,r2⟩:=q6;have HF:Hid (R=some (.br s ta el tb en .nil,r2)):=uh atb;clear atb hb6;go_wp2_with fail;refine(uh azd).mono ?_;rintro e w3 ⟨v2,nd2,rfl,⟨hv2,a7i⟩,hn2,hs3,ht3,hr2⟩;have aze:=ak a7i;clear a7i;obtain⟨vb,vd,rfl⟩:=hv2.shape;have hl2:=hv2.Ob;have b2':=(hs3.cells (uh HE)).b2;have h0:=hs3.held q hqn;rw[uh HCQ] at h0;have hz:=hs3.hl.free q;obtain⟨m1,m2⟩:=hs3.av4 (uh HE) (H':=H) hqn (fun i hi=>(uh HCE i hi).symm) (v:=(cnt X.k H q:Int)) rfl;have hlow:∀b,New w.heap.size w2.heap.size b->b∉Wx X:=fun b h hb=>by have:=((uh HE).inS b hb).2;have:=h.1;have:=uh HLO;omega
   have a3e:∀b,New w.heap.size w3.heap.size b->b∉Wx X:=fun b h hb=>by have:=((uh HE).inS b hb).2;have:=h.1;have:=uh HLO;omega
   have hk2:Gi (New w.heap.size w2.heap.size) w2 (w3.setCell ⟨X.hb,q,none⟩ (.int .i64 (cnt X.k H q:Int))):=(ht3.zo (fun k hk h=>hlow k h hk)).trans (m2.zo (fun k hk h=>hlow k h hk));have hk3:Gi (New w.heap.size w3.heap.size) w3 (w3.setCell ⟨X.hb,q,none⟩ (.int .i64 (cnt X.k H q:Int))):=m2.zo (fun k hk h=>a3e k h hk);have hsz1:w.heap.size<=(w1.setCell ⟨X.hb,q,none⟩ (.int .i64 ((cnt X.k H q:Int)+1))).heap.size:=(uh bcr);have hsz2:w.heap.size<=w2.heap.size:=(uh HT2).size;have hsz3:w2.heap.size<=w3.heap.size:=ht3.size;have hn1':=qp.mono (Q:=New w.heap.size w2.heap.size) (fun b h=>⟨ku hsz1 h.1,h.2⟩) _ _ (uh HN1);have a7j:=qp.mono (Q:=New w.heap.size w3.heap.size) (fun b h=>⟨ku hsz2 h.1,h.2⟩) _ _ hn2;have vb1:∀b,(Value.slice va nd1.length vc).ownBlock=some b->New w.heap.size w2.heap.size b:=fun b hb=>⟨ku hsz1 (uh azc b hb).1,(uh azc b hb).2⟩
   have vb2:∀b,(Value.slice vb nd2.length vd).ownBlock=some b->New w.heap.size w3.heap.size b:=fun b hb=>⟨ku hsz2 (uh aze b hb).1,(uh aze b hb).2⟩
   have azf:∀b,New w.heap.size w2.heap.size b->New w.heap.size w3.heap.size b:=fun b h=>⟨h.1,qg h.2 hsz3⟩
   have azg:=ak ((uh HV1).zo Yf hk2 vb1);have azh:=ak (qp.mono azf _ _ (qp.zo hk2 _ _ hn1'));have azi:=ak (hv2.zo Yf hk3 vb2);have azj:=ak (qp.zo hk3 _ _ a7j);have bbr:=ak (fun b hb=>azf b (vb1 b hb));have bbs:=ak vb2;have bcs:Hid (w3.heap.size<=(w3.setCell ⟨X.hb,q,none⟩ (.int .i64 (cnt X.k H q:Int))).heap.size):=hk3.1;clear hlow a3e hsz1 hsz2 hsz3 hn1' a7j vb1 vb2 azf azc aze;have Q8:=ak m1;have HT4:Hid (But (Wx X) w (w3.setCell ⟨X.hb,q,none⟩ (.int .i64 (cnt X.k H q:Int)))):=((uh HT2).trans ht3).trans m2;have HR2:=ak hr2;have e9:((cnt X.k H q+1:Nat):Int)-1=(cnt X.k H q:Int):=by omega
   have e8:(cnt X.k H q:Int)+1-1=(cnt X.k H q:Int):=by omega
   clear hv2 hn2 hs3 ht3 hr2 m1 m2 hk2 hk3 HV1 HN1 HT2;go_wp2_with fail;generalize w3.setCell ⟨X.hb,q,none⟩ (.int .i64 (cnt X.k H q:Int))=w4 at *;have HMA:=ak (aco X _ 0 ta _ nd1 w4 (uh azg) (uh azh) (uh HKK));have HMB:Hid (∀w',Below w4.heap.size w4 w'->Calls Tryz.prog 152 #[.slice vb nd2.length vd] w' (Ans (.int .i64 (tb.cost (xg X.k.ay X.known) 0)) w')):=fun w' hb=>aco X _ 0 tb _ nd2 w' ((uh azi).stays ah8 hb) (qp.zo (Gi.of_below hb) _ _ (uh azj)) (uh HKK)
   have hca:=Zw _ (uh HKK) ta 0 (by omega) (by omega);have hcb2:=Zw _ (uh HKK) tb 0 (by omega) (by omega);have HMX:Hid (maxS (ta.cost (xg X.k.ay X.known) 0) (tb.cost (xg X.k.ay X.known) 0)=if ta.cost (xg X.k.ay X.known) 0<tb.cost (xg X.k.ay X.known) 0 then tb.cost (xg X.k.ay X.known) 0 else ta.cost (xg X.k.ay X.known) 0):=rfl
   have HNB:Hid (∀w' g,w4.heap.size<=g->g<w'.heap.size->jd w' g 227 #[.int .i64 (1+maxS (ta.cost (xg X.k.ay X.known) 0) (tb.cost (xg X.k.ay X.known) 0)),.int .i64 q,.slice va nd1.length vc,.slice vb nd2.length vd]->Below w4.heap.size w4 w'->qp X (New w.heap.size w'.heap.size) w' (.br s ta el tb en .nil) [(225,g)]):=fun w' g hg hgl hbk hb=>by
    have up:∀b,New w.heap.size w3.heap.size b->New w.heap.size w'.heap.size b:=fun b h=>⟨h.1,qg h.2 (ku (uh bcs) hb.size)⟩
    refine⟨(225,g),[],.slice va nd1.length vc,.slice vb nd2.length vd,nd1,nd2,rfl,⟨ku (uh HT4).size hg,hgl⟩,rfl,?_,⟨(uh azg).stays ah8 hb,fun b h=>up b (uh bbr b h)⟩,qp.mono up _ _ (qp.zo (Gi.of_below hb) _ _ (uh azh)),⟨(uh azi).stays ah8 hb,fun b h=>up b (uh bbs b h)⟩,qp.mono up _ _ (qp.zo (Gi.of_below hb) _ _ (uh azj)),rfl⟩;rw[uh HQ];exact hbk
   generalize maxS (ta.cost (xg X.k.ay X.known) 0) (tb.cost (xg X.k.ay X.known) 0)=mx at *;generalize ta.cost (xg X.k.ay X.known) 0=ca at *;generalize tb.cost (xg X.k.ay X.known) 0=cb at *;clear azg azh azi azj e8 e9 b2' h0 hz;refine(uh HMA).mono ?_;rintro e w5 ⟨rfl,hb5⟩;have HMC:=ak (uh HMB w5 hb5);have a7k:=ak hb5;clear hb5;go_wp2_with fail;refine(uh HMC).mono ?_;rintro e w6 ⟨rfl,hb6⟩;have Wp:Hid (Below w4.heap.size w4 w6):=(uh a7k).trans (hb6.mono (uh a7k).size);clear hb6
   by_cases hlt:ca<cb
   ·have hmx:mx=cb:=(uh HMX).trans (gy hlt)
    subst hmx;clear HMX;go_wp2;go_ret;rw[uh HF];have hb7:Below w4.heap.size w4 (w6.alloc (.cells #[.int .i64 (1+mx),.int .i64 q,.slice va nd1.length vc,.slice vb nd2.length vd] 227)):=(uh Wp).alloc (uh Wp).size _;exact⟨(225,w6.heap.size),rfl,uh HNB _ _ (uh Wp).size (oh _ _ _).lt (oh _ _ _) hb7,(uh Q8).stays hb7,(uh HT4).trans (But.of_below hb7),uh HR2⟩
   ·have hmx:mx=ca:=(uh HMX).trans (bf hlt)
    subst hmx;clear HMX;go_wp2;go_ret;rw[uh HF];have hb7:Below w4.heap.size w4 (w6.alloc (.cells #[.int .i64 (1+mx),.int .i64 q,.slice va nd1.length vc,.slice vb nd2.length vd] 227)):=(uh Wp).alloc (uh Wp).size _;exact⟨(225,w6.heap.size),rfl,uh HNB _ _ (uh Wp).size (oh _ _ _).lt (oh _ _ _) hb7,(uh Q8).stays hb7,(uh HT4).trans (But.of_below hb7),uh HR2⟩
end Go.Proofs.YtfeejeflmcapoaaGreatDoor
