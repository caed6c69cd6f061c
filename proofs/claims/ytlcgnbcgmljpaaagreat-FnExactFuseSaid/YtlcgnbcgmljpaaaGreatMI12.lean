import Derived.Test.YtlcgnbcgmljpaaaGreatMI6
namespace Go.Proofs.YtlcgnbcgmljpaaaGreat
open Go.RowKit
set_option linter.unusedSimpArgs false
set_option linter.unusedVariables false
def PL.app:PL->PL->PL
 | ⟨none⟩,u=>u
 | ⟨some (s, r, none)⟩,u=>.leaf s (r.app u)
 | ⟨some (s, r, some (el, a, en, b))⟩,u=>.br s a el b en (r.app u)
theorem PL.Rt (t:PL):t.app .nil=t:=by
 induction t using PL.ind with
 | nil=>rfl
 | leaf s r ih=>simp only[PL.app,ih]
 | br s a el b en r _ _ ih=>simp only[PL.app,ih]
theorem PL.Ud (t u v:PL):(t.app u).app v=t.app (u.app v):=by
 induction t using PL.ind with
 | nil=>rfl
 | leaf s r ih=>simp only[PL.app,ih]
 | br s a el b en r _ _ ih=>simp only[PL.app,ih]
def Xd (ks:List ak) (k:ak) (f:Nat) (ss:List dh) (H:List ByteArray) (d kd:Int):Option (PL × dh × List dh):=match yc ks k f ss H d with
 | some (t,el::r)=>if el.kind=kd∧xg el=true then some (t,el,r) else none
 | _=>none
def Kv (ks:List ak) (k:ak) (f:Nat) (s:dh) (ss:List dh) (H:List ByteArray) (d:Int):Option (PL × List dh) :=
 if 20<d then none else if xg s=false then none
 else if s.kind=4 then (if iy (varsOf k) s.name<0 then none else match Xd ks k f ss (s.name::H) (d+1) 5 with
  | none=>none
  | some (a,el,r1)=>match Xd ks k f r1 (s.name::H) (d+1) 6 with
   | none=>none
   | some (b,en,r2)=>some (.br s a el b en .nil,r2))
 else if Qz ks k H s=false then none else some (.leaf s .nil,ss)
def glue (t:PL) (o:Option (PL × List dh)):Option (PL × List dh):=o.map (fun p=>(t.app p.1,p.2))
theorem aqr {kd:Int} (x:dh) (h:¬(x.kind=kd∧xg x=true)):x.kind≠kd∨xg x=false:=by
 cases hu:xg x
 ·exact Or.inr rfl
 ·exact Or.inl (fun e=>h ⟨e,hu⟩)
theorem aod (ks:List ak) (k:ak) (f:Nat) (s:dh) (r:List dh) (H:List ByteArray) (d:Int) (h:s.kind=5∨s.kind=6):yc ks k (f+1) (s::r) H d=some (.nil,s::r):=by rw[yc,if_pos h]
theorem aqs (ks:List ak) (k:ak) (f:Nat) (s:dh) (ss:List dh) (H:List ByteArray) (d:Int) (h:¬(s.kind=5∨s.kind=6)):yc ks k (f+1) (s::ss) H d=match Kv ks k f s ss H d with
  | none=>none
  | some (i,r)=>glue i (yc ks k f r H d):=by
 rw[yc,if_neg h]
 unfold Kv
 by_cases h1:20<d
 ·rw[if_pos h1,if_pos h1]
 rw[if_neg h1,if_neg h1]
 by_cases h2:xg s=false
 ·rw[if_pos h2,if_pos h2]
 rw[if_neg h2,if_neg h2]
 by_cases h4:s.kind=4
 ·rw[if_pos h4,if_pos h4]
  by_cases hp:iy (varsOf k) s.name<0
  ·rw[if_pos hp,if_pos hp]
  rw[if_neg hp,if_neg hp]
  unfold Xd
  cases h5:yc ks k f ss (s.name::H) (d+1) with
  | none=>rfl
  | some q =>
   obtain⟨a,r⟩:=q
   cases r with
   | nil=>rfl
   | cons el r1 =>
    simp only
    by_cases he:el.kind=5∧xg el=true
    ·rw[if_neg (by rw[he.1,he.2];simp),if_pos he]
     simp only
     cases h6:yc ks k f r1 (s.name::H) (d+1) with
     | none=>rfl
     | some q =>
      obtain⟨b,r⟩:=q
      cases r with
      | nil=>rfl
      | cons en r2 =>
       simp only
       by_cases hn:en.kind=6∧xg en=true
       ·rw[if_neg (by rw[hn.1,hn.2];simp),if_pos hn]
        simp only
        cases yc ks k f r2 H d with
        | none=>rfl
        | some q=>rfl
       ·rw[if_neg hn,if_pos (aqr en hn)]
    ·rw[if_neg he,if_pos (aqr el he)]
 ·rw[if_neg h4,if_neg h4]
  cases hl:Qz ks k H s
  ·simp
  ·simp only[Bool.true_eq_false,if_false]
   cases yc ks k f ss H d with
   | none=>rfl
   | some q=>rfl
def ads:wo Tryz.prog (TypeId × Nat) where
 T:=179
 ST:=96
 sz:=1
 jh:=16
 f:=fun x=>[.iface x.1 (.pointer (some ⟨x.2,0,none⟩))]
 z:=.nilIface
 hT:=Tryz.underlying96
 hi:=by kernel_rfl
 hz:=rfl
 hf:=fun _=>rfl
 h1:=fun c u hu=>by
  simp only[List.mem_cons,List.not_mem_nil,or_false] at hu
  rcases hu with rfl
  rfl
 hsz:=by decide
 hby:=by decide
theorem dw.but {P:Program} {α:Type} {E:wo P α} {S:List Nat} {w w':World} {base:Nat} {v:Value} {xs:List α} (h:dw E w base v xs) (hb:But S w w') (hs:∀k,k∈S->k<base):dw E w' base v xs:=by
 obtain⟨h1,h2⟩:=h
 refine⟨h1,?_⟩
 rcases h2 with h2|⟨g,cap,cur,hv,hg,hh,r⟩
 ·exact Or.inl h2
 ·exact Or.inr ⟨g,cap,cur,hv,hg,(hb.block g (Array.getElem?_eq_some_iff.1 hh).1 (fun e=>by have:=hs g e;omega)).trans hh,r⟩
theorem aqt {w:World} {base:Nat} {v:Value} {xs:List (TypeId × Nat)} (h:dw ads w base v xs) (hn:xs.length<=30000):bf 1 16 U9 0 w v xs :=
 h.at (E:=ads) (R:=U9) (fun x _=>rfl) (by simp[ads];omega)
theorem jg.app {X:BD} {P:Nat->Prop} {w:World}:∀(t u:PL) (n m:List (TypeId × Nat)),jg X P w t n->jg X P w u m->jg X P w (t.app u) (n++m):=by
 intro t
 induction t using PL.ind with
 | nil=>intro u n m h1 h2;cases h1;exact h2
 | leaf s r ih =>
  rintro u n m ⟨x,ns',rfl,h2,h3,h4⟩ h5
  exact⟨x,ns'++m,rfl,h2,h3,ih u _ _ h4 h5⟩
 | br s a el b en r _ _ ih =>
  rintro u n m ⟨x,ns',fv,sv,na,nb,rfl,h2,h3,h4,h5,h6,h7,h8,h9⟩ hu
  exact⟨x,ns'++m,fv,sv,na,nb,rfl,h2,h3,h4,h5,h6,h7,h8,ih u _ _ h9 hu⟩
theorem Ru {P:Program} {w:World} (base:Nat) (t ty e:TypeId) (i:TypeInfo) (z:Value) (size bytes:Nat) (ht:P.underlying t=some (.slice e)) (hi:P.info? e=some i) (hz:i.zero=some z)
  (hsize:i.size=size) (hby:i.bytes=bytes) (hzs:z.cells.size=size) (hsz:0<size)
  (v:Value) (n:Nat) (xs:List Value) (hown:w.ownsRow base e size v n xs)
  (a:Addr) (m c:Nat) (news:List Value) (hl:news.length=m*size) (hnews:∀j u,news[j]?=some u->w.cell? (a.add j)=some u) (h1:∀u∈news,u.oneCell'=true)
  (h63:n+m<=maxLen) (hbytes:(n+m)*bytes<=140737488355328) (hbase:base<=w.heap.size) :
  ∃v' w',(Builtin.append_ #[t,t] ty #[v,.slice (some a) m c]).run P w=.ok v' w'∧w'.ownsRow base e size v' (n+m) (xs++news)∧w.grownBy w' v.ownBlock∧(∀b,v'.ownBlock=some b->v.ownBlock=some b∨w.heap.size<=b):=by
 obtain⟨v',w',hr,h2,h3,_⟩:=run_append_own (P:=P) w base t ty e i z size bytes ht hi hz hsize hby hzs hsz v n xs hown a m c news hl hnews h1 h63 hbytes hbase
 refine⟨v',w',hr,h2,h3,fun b hb=>?_⟩
 rcases hown.2 with ⟨rfl,rfl⟩|⟨g,cap,cur,rfl,hbg,hg,hnc,hcm,hcs,htake⟩
 ·have hown2:w.ownsRow w.heap.size e size (.slice none 0 0) 0 xs:=⟨hown.1,Or.inl ⟨rfl,rfl⟩⟩
  obtain⟨v2,w2,hr2,h4,_,_⟩:=run_append_own (P:=P) w w.heap.size t ty e i z size bytes ht hi hz hsize hby hzs hsz _ 0 xs hown2 a m c news hl hnews h1 h63 hbytes (Nat.le_refl _)
  rw[hr] at hr2
  injection hr2 with e1 e2
  subst e1 e2
  exact Or.inr (h4.lt b hb).1
 ·subst hsize
  by_cases hroom:n+m<=cap
  ·have hfit:n*i.size+news.length<=cur.size:=by rw[hl,hcs,←Nat.add_mul];exact Nat.mul_le_mul_right _ hroom
   have hr2:=run_append_room (P:=P) w t ty e i ht hi g n cap cur hg a m c news hl hnews h1 hroom hfit
   rw[hr] at hr2
   injection hr2 with e1 e2
   subst e1
   exact Or.inl hb
  ·have holds:∀j u,xs[j]?=some u->w.cell? ((⟨g,0,none⟩:Addr).add j)=some u:=hown.cells (g:=g) rfl
   have hsmall:n+m<=9223372036854775807:=by simp only[maxLen] at h63;omega
   have hr2:=run_append_grow (P:=P) w t ty e i z ht hi hz ⟨g,0,none⟩ n cap xs hown.1 holds a m c news hl hnews (by omega) (by omega) (growslice_fits (by omega) (by rw[hby];exact hbytes))
   rw[hr] at hr2
   injection hr2 with e1 e2
   subst e1
   simp only[Value.ownBlock,Option.some.injEq] at hb
   exact Or.inr (by omega)
theorem l9 {P:Program} {α:Type} (E:wo P α) (w:World) {ops:Array Oper} {rest:List Oper} {o:Oper} {a:Act} {Q:Exit->Act->World->Prop} (hgd:o.guard=none) (s x:Operand)
  (ho:o.op=.call { callee:=.builtin .append,args:=#[s,x],argTypes:=#[E.ST,E.ST] })
  (base:Nat) (v:Value) (xs:List α) (hs:a.eval s=v) (hown:dw E w base v xs)
  (eb:Nat) (y:α) (hx:a.eval x=.slice (some ⟨eb,0,none⟩) 1 1) (hy:∀j u,(E.f y)[j]?=some u->w.cell? ⟨eb,j,none⟩=some u) (hb:(xs.length+1)*E.jh<=140737488355328) (hbase:base<=w.heap.size)
  (h:∀v' w',dw E w' base v' (xs++[y])->w.grownBy w' v.ownBlock->(∀b,v'.ownBlock=some b->v.ownBlock=some b∨w.heap.size<=b)->wpList P ops Q rest (a.put o.dst v') w'):wpList P ops Q (o::rest) a w:=by
 obtain⟨i,hi,hz0,hz1,hz2⟩:=info_parts E.hi
 have hlen:xs.length+1<=140737488355328:=Nat.le_trans (Nat.le_mul_of_pos_right _ E.hby) hb
 obtain⟨v',w',hr,h2,h3,h4⟩:=Ru (P:=P) (w:=w) base E.ST o.type E.T i _ E.sz E.jh E.hT hi hz0 hz1 hz2 E.hz E.hsz v xs.length (xs.flatMap E.f) hown ⟨eb,0,none⟩ 1 1 (E.f y) (by rw[E.hf];omega) (fun j u hu=>by rw[Addr.add_lit,Nat.zero_add];exact hy j u hu) (E.h1 y) (by simp[maxLen];omega) hb hbase
 refine wpList_plain hgd fun K hK=>?_
 unfold Oper.wp execOp
 simp only[ho,resolve,invoke,builtin,Sem.run_bind,Sem.run_pure,Result.andThen_ok,List.map_toArray,List.map_cons,List.map_nil,hs,hx,hr]
 refine hK _ _ (h v' w' ?_ h3 h4)
 unfold dw
 rw[List.length_append,List.flatMap_append]
 simpa using h2
abbrev Og (X:BD):List Nat:=[X.bb,X.hb,X.gb]
theorem BE.inS {X:BD} (hE:BE X):∀k,k∈Og X->X.W0.heap.size<=k∧k<X.lo:=fun k hk=>by
 simp only[Og,List.mem_cons,List.not_mem_nil,or_false] at hk
 rcases hk with rfl|rfl|rfl
 ·exact hE.nb
 ·exact hE.nh
 ·exact hE.ng
def abv (X:BD) (H:List ByteArray) (w:World) (o:Option (PL × List dh)) (e:Ending) (w':World):Prop:=match o with
 | none=>e=.returned (.tuple #[.slice none 0 0,.bool false])∧Below X.W0.heap.size X.W0 w'
 | some (t,rest)=>∃v nodes,e=.returned (.tuple #[v,.bool true])∧(bf 1 16 U9 0 w' v nodes∧∀b,v.ownBlock=some b->New w.heap.size w'.heap.size b)∧jg X (New w.heap.size w'.heap.size) w' t nodes∧BS X w' H (X.k.body.length-rest.length)∧But (Og X) w w'∧rest=X.k.body.drop (X.k.body.length-rest.length)
def Sm (X:BD) (f:Nat):Prop:=∀(H:List ByteArray) (nx:Nat) (d:Int) (w:World),BS X w H nx->X.k.body.length-nx<f->0<=d->d<=21->(H.length:Int)<=d ->
 Calls Tryz.prog 112 #[.pointer (some ⟨X.bb,0,none⟩),.int .i64 d] w (abv X H w (yc X.ks X.k f (X.k.body.drop nx) H d))
def a0h (X:BD) (H:List ByteArray) (w:World) (o:Option (PL × dh × List dh)) (e:Ending) (w':World):Prop:=match o with
 | none=>(∃v,e=.returned (.tuple #[v,.bool false]))∧Below X.W0.heap.size X.W0 w'
 | some (t,_,rest)=>∃v nodes,e=.returned (.tuple #[v,.bool true])∧(bf 1 16 U9 0 w' v nodes∧∀b,v.ownBlock=some b->New w.heap.size w'.heap.size b)∧jg X (New w.heap.size w'.heap.size) w' t nodes∧BS X w' H (X.k.body.length-rest.length)∧But (Og X) w w'∧rest=X.k.body.drop (X.k.body.length-rest.length)
def Jo (X:BD) (H:List ByteArray) (w:World) (o:Option (PL × List dh)) (e:Ending) (w':World):Prop:=match o with
 | none=>e=.returned .nilIface∧Below X.W0.heap.size X.W0 w'
 | some (i,rest)=>∃x:TypeId × Nat,e=.returned (.iface x.1 (.pointer (some ⟨x.2,0,none⟩)))∧jg X (New w.heap.size w'.heap.size) w' i [x]∧BS X w' H (X.k.body.length-rest.length)∧But (Og X) w w'∧rest=X.k.body.drop (X.k.body.length-rest.length)
theorem D6.st {X:BD} (hE:BE X) {H:List ByteArray} {nx:Nat} {w w':World} {s:dh} {ok:Bool} {e:Ending} (h:D6 X H nx w s ok e w') (hlo:X.lo<=w.heap.size) (hnx:nx<=X.k.body.length) {f:Nat} {d:Int} (hs:Kv X.ks X.k f s (X.k.body.drop nx) H d=if ok=false then none else some (.leaf s .nil,X.k.body.drop nx)):Jo X H w (Kv X.ks X.k f s (X.k.body.drop nx) H d) e w':=by
 obtain⟨h1,h2,h3,h4⟩:=h
 rw[hs]
 cases ok
 ·rw[if_pos rfl]
  exact⟨h2 rfl,h4.old⟩
 ·rw[if_neg (by decide)]
  obtain⟨x,hx1,hx2,hx3⟩:=h1 rfl
  have hl:X.k.body.length-(X.k.body.drop nx).length=nx:=by rw[List.length_drop];omega
  refine⟨x,hx1,⟨x,[],rfl,hx2,hx3,rfl⟩,by rw[hl];exact h4,h3.mono (fun k hk=>Or.inl (by rw[List.mem_singleton] at hk;subst hk;simp[Og])),by rw[hl]⟩
def Oh:wo Tryz.prog Int where
 T:=21
 ST:=95
 sz:=1
 jh:=4
 f:=fun t=>[.int .i32 t]
 z:=.int .i32 0
 hT:=Tryz.underlying95
 hi:=by kernel_rfl
 hz:=rfl
 hf:=fun _=>rfl
 h1:=fun c u hu=>by
  simp only[List.mem_cons,List.not_mem_nil,or_false] at hu
  rcases hu with rfl
  rfl
 hsz:=by decide
 hby:=by decide
def Om:wo Tryz.prog (Nat × Nat) where
 T:=156
 ST:=94
 sz:=2
 jh:=16
 f:=fun t=>[.pointer (some ⟨t.1,0,none⟩),.int .i64 t.2]
 z:=.agg #[.pointer none,.int .i64 0]
 hT:=Tryz.underlying94
 hi:=by kernel_rfl
 hz:=rfl
 hf:=fun _=>rfl
 h1:=fun c u hu=>by
  simp only[List.mem_cons,List.not_mem_nil,or_false] at hu
  rcases hu with rfl|rfl<;>rfl
 hsz:=by decide
 hby:=by decide
def X7:wo Tryz.prog Nat where
 T:=90
 ST:=65
 sz:=1
 jh:=8
 f:=fun t=>[.pointer (some ⟨t,0,none⟩)]
 z:=.pointer none
 hT:=Tryz.underlying65
 hi:=by kernel_rfl
 hz:=rfl
 hf:=fun _=>rfl
 h1:=fun c u hu=>by
  simp only[List.mem_cons,List.not_mem_nil,or_false] at hu
  rcases hu with rfl
  rfl
 hsz:=by decide
 hby:=by decide
def Yc (_:Nat) (_:World) (cs:List Value) (x:Int):Prop:=cs=[.int .i32 x]
def afg (_:Nat) (_:World) (cs:List Value) (x:Nat):Prop:=cs=[.pointer (some ⟨x,0,none⟩)]
theorem agx:Fj Yc:=fun _ _ _ _ _ _ h=>h
theorem aie:∀(w w':World) (cs:List Value) (x:Int),Yc 0 w cs x->Yc 0 w' cs x:=fun _ _ _ _ h=>h
theorem Yx {P:Program} {α:Type} (E:wo P α) (w:World) (ty:TypeId) (base:Nat) (v:Value) (xs:List α) (hown:dw E w base v xs)
  (eb:Nat) (y:α) (hy:∀j u,(E.f y)[j]?=some u->w.cell? ⟨eb,j,none⟩=some u) (hb:(xs.length+1)*E.jh<=140737488355328) (hbase:base<=w.heap.size) :
  ∃v' w',(Builtin.append_ #[E.ST,E.ST] ty #[v,.slice (some ⟨eb,0,none⟩) 1 1]).run P w=.ok v' w'∧dw E w' base v' (xs++[y])∧w.grownBy w' v.ownBlock∧(∀b,v'.ownBlock=some b->v.ownBlock=some b∨w.heap.size<=b):=by
 obtain⟨i,hi,hz0,hz1,hz2⟩:=info_parts E.hi
 have hlen:xs.length+1<=140737488355328:=Nat.le_trans (Nat.le_mul_of_pos_right _ E.hby) hb
 obtain⟨v',w',hr,h2,h3,h4⟩:=Ru (P:=P) (w:=w) base E.ST ty E.T i _ E.sz E.jh E.hT hi hz0 hz1 hz2 E.hz E.hsz v xs.length (xs.flatMap E.f) hown ⟨eb,0,none⟩ 1 1 (E.f y) (by rw[E.hf];omega) (fun j u hu=>by rw[Addr.add_lit,Nat.zero_add];exact hy j u hu) (E.h1 y) (by simp[maxLen];omega) hb hbase
 refine⟨v',w',hr,?_,h3,h4⟩
 unfold dw
 rw[List.length_append,List.flatMap_append]
 simpa using h2
theorem afx {P:Program} {α:Type} (E:wo P α) {R:Nat->World->List Value->α->Prop} (hRf:∀w cs x,R 0 w cs x->cs=E.f x) (w:World) (ty:TypeId)
  (base g cap:Nat) (xs:List α) (hown:dw E w base (.slice (some ⟨g,0,none⟩) xs.length cap) xs)
  (xv:Value) (ys:List α) (hsl:bf E.sz E.jh R 0 w xv ys) (hb:(xs.length+ys.length)*E.jh<=140737488355328) (hbase:base<=w.heap.size) :
  ∃g' cap' w',(Builtin.append_ #[E.ST,E.ST] ty #[.slice (some ⟨g,0,none⟩) xs.length cap,xv]).run P w=.ok (.slice (some ⟨g',0,none⟩) (xs.length+ys.length) cap') w'∧dw E w' base (.slice (some ⟨g',0,none⟩) (xs.length+ys.length) cap') (xs++ys)∧w.grownBy w' (some g):=by
 obtain⟨i,hi,hz0,hz1,hz2⟩:=info_parts E.hi
 obtain⟨ax,cx,rfl,_,hn,hel⟩:=hsl
 have hlen:xs.length+ys.length<=140737488355328:=Nat.le_trans (Nat.le_mul_of_pos_right _ E.hby) hb
 have hcap:xs.length<=cap:=by
  rcases hown.shape with ⟨hh,_⟩|⟨g1,cap1,hv,_,_,h2⟩
  ·cases hh
  ·simp only[Value.slice.injEq] at hv
   obtain⟨_,_,rfl⟩:=hv
   exact h2
 cases ax with
 | none =>
  have hy:ys=[]:=by
   cases ys with
   | nil=>rfl
   | cons y ys =>
    obtain⟨b,o,cs,ql,_⟩:=hel 0 (by simp)
    cases ql
  subst hy
  have hrun:=run_append_room_src (P:=P) w E.ST E.ST ty E.T i E.hT hi g 0 xs.length cap (.slice none 0 cx) 0 [] (Src.ofNil w E.hT cx) (by omega) (fun j hj=>by simp at hj) (fun j hj=>by simp at hj)
  have hsc:w.setCells g (0+xs.length*i.size) []=w:=by simp[World.setCells]
  rw[hsc] at hrun
  exact⟨g,cap,w,by simpa using hrun,by simpa using hown,World.grownBy.refl w _⟩
 | some ad =>
  have hcellA:∀j u,(ys.flatMap E.f)[j]?=some u->w.cell? (ad.add j)=some u:=fun j u hu=>by
   have hj:j<ys.length*E.sz:=by
    have:=(List.getElem?_eq_some_iff.1 hu).1
    rwa[Mc E.f E.sz E.hf] at this
   have hsz:=E.hsz
   have hdiv:j / E.sz<ys.length:=Nat.div_lt_of_lt_mul (by rw[Nat.mul_comm];exact hj)
   have hmod:j % E.sz<E.sz:=Nat.mod_lt _ hsz
   have hjj:j / E.sz*E.sz+j % E.sz=j:=by rw[Nat.mul_comm];exact Nat.div_add_mod j E.sz
   obtain⟨b,oo,cs,ql,_,_,hl,hc,hR⟩:=hel (j / E.sz) hdiv
   simp only[Option.some.injEq] at ql
   subst ql
   have ecs:=hRf _ _ _ hR
   subst ecs
   have hg:=flat_get E.f E.sz E.hf ys (j / E.sz) hdiv (j % E.sz) hmod
   rw[hjj,hu] at hg
   obtain⟨hjl,hju⟩:=List.getElem?_eq_some_iff.1 hg.symm
   have hcc:=hc (j % E.sz) hjl
   rw[hju] at hcc
   rw[Addr.add_lit,←hcc]
   congr 2
   omega
  obtain⟨v',w',hr,h1,h2,h3⟩:=run_append_own (P:=P) w base E.ST ty E.T i _ E.sz E.jh E.hT hi hz0 hz1 hz2 E.hz E.hsz _ xs.length (xs.flatMap E.f) hown ad ys.length cx (ys.flatMap E.f) (Mc E.f E.sz E.hf ys) hcellA (fun u hu=>by obtain⟨y,_,hy⟩:=List.mem_flatMap.1 hu;exact E.h1 y u hy) (by simp[maxLen];omega) hb hbase
  obtain⟨hl,hh⟩:=h1
  rcases hh with ⟨rfl,_⟩|⟨g',cap',cur,rfl,hrr⟩
  ·have:=h3.1 rfl
   cases this.1
  ·refine⟨g',cap',w',hr,⟨?_,Or.inr ⟨g',cap',cur,by rw[List.length_append],?_⟩⟩,h2⟩
   ·rw[List.length_append,List.flatMap_append]
    exact hl
   ·rw[List.length_append,List.flatMap_append]
    exact hrr
def Zd (xs:List Int) (i:Nat) (cs:Array Value):Prop:=cs.size=xs.length∧∀j (hj:j<xs.length),j<i->cs[j]?=some (.int .i32 xs[j])
theorem Zd.next {xs:List Int} {i:Nat} {cs:Array Value} (h:Zd xs i cs) (hi:i<xs.length):Zd xs (i+1) (cs.setIfInBounds i (.int .i32 xs[i])):=by
 refine⟨by rw[Array.size_setIfInBounds];exact h.1,fun j hj hji=>?_⟩
 rw[Array.getElem?_setIfInBounds]
 by_cases e:i=j
 ·subst e
  rw[if_pos rfl,if_pos (by rw[h.1];exact hi)]
 ·rw[if_neg e]
  exact h.2 j hj (by omega)
theorem a0i (xs:List Int):xs.flatMap Oh.f=xs.map (fun x=>Value.int .i32 x):=by
 induction xs with
 | nil=>rfl
 | cons x xs ih=>rw[List.flatMap_cons,ih];rfl
theorem auf (x:Int) (h:H9 x=true):IntKind.i32.wrap x=x:=by
 unfold H9 at h
 have h:=of_decide_eq_true h
 rw[IntKind.wrap_i32]
 omega
theorem axa (v:Int):Si v=H9 v:=by
 rw[Bool.eq_iff_iff]
 unfold Si H9
 rw[beq_iff_eq,decide_eq_true_iff,IntKind.wrap_i32]
 omega
theorem Zd.own {xs:List Int} {cs:Array Value} {w:World} {g base:Nat} (h:Zd xs xs.length cs) (hb:au w g 21 cs) (hg:base<=g) (hn:xs.length<=1000000):dw Oh w base (.slice (some ⟨g,0,none⟩) xs.length xs.length) xs:=by
 have e:cs.toList=xs.map (fun x=>Value.int .i32 x):=by
  apply List.ext_getElem?
  intro i
  by_cases hi:i<xs.length
  ·rw[Array.getElem?_toList,h.2 i hi hi,List.getElem?_map,List.getElem?_eq_getElem hi]
   rfl
  ·rw[List.getElem?_eq_none (by rw[Array.length_toList,h.1];omega),List.getElem?_eq_none (by rw[List.length_map];omega)]
 have e2:=a0i xs
 refine⟨by rw[e2,List.length_map];simp[Oh],Or.inr ⟨g,xs.length,cs,rfl,hg,hb,Nat.le_refl _,by simp[maxLen];omega,by rw[h.1];simp[Oh],?_⟩⟩
 rw[e,e2]
 exact List.take_of_length_le (by simp[Oh])
set_option maxHeartbeats 1000000 in
theorem aqu (xs:List Int) (v:Value) (w:World) (hv:bf 1 8 yu 0 w v xs) (hr:∀x,x∈xs->H9 x=true) (hn:xs.length<=1000000) :
  Calls Tryz.prog 111 #[v] w fun e w'=>∃g,e=.returned (.slice (some ⟨g,0,none⟩) xs.length xs.length)∧dw Oh w' w.heap.size (.slice (some ⟨g,0,none⟩) xs.length xs.length) xs∧Below w.heap.size w w':=by
 obtain⟨a,cap,rfl,_,hnl,hx⟩:=hv
 have HX:=hide hx
 have HR:=hide hr
 have hmk:(Instr.makeSlice 95 (.int .i64 (xs.length:Int)) (.int .i64 (xs.length:Int))).run Tryz.prog w=.ok (.slice (some ⟨w.heap.size,0,none⟩) xs.length xs.length) (w.alloc (.cells (madeCells #[.int .i32 0] xs.length) 21)):=by
  have h9:=Hf (P:=Tryz.prog) 95 21 (.int .i32 0) 1 4 Tryz.underlying95 (by kernel_rfl) xs.length (by omega) (by omega) w
  rw[Nat.mul_one] at h9
  exact h9
 have HB0:Hid (Below w.heap.size w (w.alloc (.cells (madeCells #[.int .i32 0] xs.length) 21))):=(Below.refl _ _).alloc (Nat.le_refl _) _
 have HK0:Hid (au (w.alloc (.cells (madeCells #[.int .i32 0] xs.length) 21)) w.heap.size 21 (madeCells #[.int .i32 0] xs.length)):=jl w _ _
 clear hx hr hnl
 go_enter Tryz.func111,Tryz.ntmps111
 go_wp2
 generalize w.alloc (.cells (madeCells #[.int .i32 0] xs.length) 21)=w0 at *
 go_loopg [11] xs.length (fun g iv wr=>∃(i:Nat) (cs:Array Value),i<=xs.length∧g=xs.length-i∧iv=.int .i64 i∧Zd xs i cs∧au wr w.heap.size 21 cs∧Below w.heap.size w wr)
 case atStart=>exact⟨0,_,Nat.zero_le _,by omega,rfl,⟨by rw[size_madeCells],fun j _ hj=>absurd hj (Nat.not_lt_zero _)⟩,uh HK0,uh HB0⟩
 case round =>
  clear HB0 HK0 hmk
  obtain⟨i,cs,hi,hg,rfl,hf,hk,hbl⟩:=hrel
  rename World=>wr
  have HG:=hide hg
  have HF:=hide hf
  have HK:=hide hk
  have qx:=hide hbl
  clear hg hf
  by_cases hlt:i<xs.length
  ·obtain⟨b,o,c1,rfl,_,hb,_,hc,⟨rfl,hi64⟩⟩:=uh HX i hlt
   have c0:=(hbl.cell (p:=⟨b,_,none⟩) hb).trans (hc 0 (by simp))
   simp only[Nat.mul_one,Nat.add_zero,List.getElem_cons_zero] at c0
   have hval:=uh HR _ (List.getElem_mem hlt)
   have hwr:=auf _ hval
   obtain⟨ru,hru⟩:∃u,cs[i]?=some u:=⟨_,Array.getElem?_eq_getElem (by rw[(uh HF).1];exact hlt)⟩
   have rc:=hk.cell hru
   have rz:=hk.free i
   have Yr:(i:Int)<(xs.length:Int):=by omega
   have Eb:=hide ((uh HF).next hlt)
   clear hc hru hk hbl hval
   generalize xs[i]=x at *
   go_wp2
   go_roundg (xs.length-(i+1))
   case measure=>have:=uh HG;omega
   case rel=>exact⟨i+1,_,by omega,rfl,by go_num,uh Eb,(uh HK).set i _,(uh qx).setCell (Nat.le_refl _) _⟩
  ·have e:i=xs.length:=by omega
   subst e
   go_wp2
   go_ret
   exact⟨w.heap.size,rfl,(uh HF).own (uh HK) (Nat.le_refl _) hn,uh qx⟩
theorem BS.move {X:BD} (hE:BE X) {w:World} {H:List ByteArray} {nx:Nat} (h:BS X w H nx) (hn:nx<X.k.body.length):BS X (w.setCell ⟨X.bb,1,none⟩ (.int .i64 ((nx:Int)+1))) H (nx+1)∧GS X (w.setCell ⟨X.bb,1,none⟩ (.int .i64 ((nx:Int)+1))) (nx+1)∧But (Og X) w (w.setCell ⟨X.bb,1,none⟩ (.int .i64 ((nx:Int)+1))):=by
 obtain⟨gv,g1,g2,g3⟩:=h.gl
 have hb:But (Og X) w (w.setCell ⟨X.bb,1,none⟩ (.int .i64 ((nx:Int)+1))):=(But.refl _ _).Vu (by simp[Og]) _
 have hbl:=h.bl.set 1 (.int .i64 ((nx:Int)+1))
 have e:(ajk X nx).setIfInBounds 1 (.int .i64 ((nx:Int)+1))=ajk X (nx+1):=rfl
 rw[e] at hbl
 have hg3:=g3.other (p:=⟨X.bb,1,none⟩) (Ne.symm hE.bg) (.int .i64 ((nx:Int)+1))
 exact⟨⟨h.old.trans (hb.below _ h.old.size (fun k hk=>(hE.inS k hk).1)),Nat.le_trans h.lo hb.size,hn,hbl,h.hl.other (Ne.symm hE.bh) _,gv,g1,(fun x hx=>by have:=g2 x hx;omega),hg3⟩,⟨gv,g1,(fun x hx=>by have:=g2 x hx;omega),hg3⟩,hb⟩
set_option maxRecDepth 20000 in
set_option maxHeartbeats 2000000 in
theorem aqv (X:BD) (hE:BE X) (f:Nat) (hL:Sm X f) (H:List ByteArray) (nx:Nat) (d kd:Int) (w:World) (hS:BS X w H nx) (hf:X.k.body.length-nx<f) (hd:0<=d) (hd2:d<=21) (hH:(H.length:Int)<=d) :
  Calls Tryz.prog 146 #[.pointer (some ⟨X.bb,0,none⟩),.int .i64 d,.int .i64 kd] w (a0h X H w (Xd X.ks X.k f (X.k.body.drop nx) H d kd)):=by
 have HL:=hide (hL H nx d w hS hf hd hd2 hH)
 have HB:Hid (Xd X.ks X.k f (X.k.body.drop nx) H d kd=match yc X.ks X.k f (X.k.body.drop nx) H d with
  | some (t,el::r)=>if el.kind=kd∧xg el=true then some (t,el,r) else none
  | _=>none):=rfl
 generalize Xd X.ks X.k f (X.k.body.drop nx) H d kd=R at *
 generalize yc X.ks X.k f (X.k.body.drop nx) H d=o at *
 have HE:=hide hE
 have HLO:=hide hS.lo
 clear hS hL hf hH
 cases o with
 | none =>
  have e:R=none:=uh HB
  subst e
  clear HB
  go_enter Tryz.func146,Tryz.ntmps146
  go_wp2_with fail
  refine(uh HL).mono ?_
  rintro e w1 ⟨rfl,hb1⟩
  have HB1:=hide hb1
  clear hb1
  go_wp2_with fail
  go_quiet ((fail))
  go_wp2
  go_ret2
  exact⟨⟨_,rfl⟩,below_drewN (uh HB1) _⟩
 | some q =>
  obtain⟨t,rest⟩:=q
  cases rest with
  | nil =>
   have e:R=none:=uh HB
   subst e
   clear HB
   go_enter Tryz.func146,Tryz.ntmps146
   go_wp2_with fail
   refine(uh HL).mono ?_
   rintro e w1 ⟨v,nodes,rfl,⟨hv,_⟩,hn,hbs,hbt,_⟩
   have HB1:=hide hbs.old
   rw[List.length_nil,Nat.sub_zero] at hbs
   obtain⟨b0,b1,b2,b3,p0,p1,p2,c1,c4,c6⟩:=hbs.cells (uh HE)
   obtain⟨ba,bc,hba⟩:=(uh HE).cls.body.shape
   have hbl:=(uh HE).bl
   rw[hba] at c6
   obtain⟨va,vc,rfl⟩:=hv.shape
   have e1:((X.k.body.length:Int) == (X.k.body.length:Int))=true:=by simp
   clear hbs hbt hn hv hba b2 b3 p1 p2 c1 c4
   go_wp2_with fail
   go_quiet ((fail))
   go_wp2
   go_ret2
   exact⟨⟨_,rfl⟩,below_drewN (uh HB1) _⟩
  | cons el r1 =>
   have HB2:Hid (R=if el.kind=kd∧xg el=true then some (t,el,r1) else none):=uh HB
   clear HB
   go_enter Tryz.func146,Tryz.ntmps146
   go_wp2_with fail
   refine(uh HL).mono ?_
   rintro e w1 ⟨v,nodes,rfl,⟨hv,hvb⟩,hn,hbs,hbt,hrest⟩
   have HVB:=hide hvb
   clear hvb
   obtain⟨va,vc,rfl⟩:=hv.shape
   have hnodes:=hv.Fz
   have hbl:=(uh HE).bl
   have hne:(el::r1).length<=X.k.body.length:=by
    have:=congrArg List.length hrest
    rw[List.length_drop] at this
    omega
   rw[List.length_cons] at hne hrest hbs
   have hm:X.k.body.length-(r1.length+1)<X.k.body.length:=by omega
   have hr:X.k.body.drop (X.k.body.length-(r1.length+1))=X.k.body[X.k.body.length-(r1.length+1)]::X.k.body.drop (X.k.body.length-(r1.length+1)+1):=List.drop_eq_getElem_cons hm
   rw[hr,List.cons.injEq] at hrest
   obtain⟨hel,hr1⟩:=hrest
   have hm2:X.k.body.length-(r1.length+1)+1=X.k.body.length-r1.length:=by omega
   rw[hm2] at hr1
   obtain⟨sb,so0,ov,cv,av,⟨bn,bc,hba⟩,hSA⟩:=al3 (uh HE).cls.body _ hm
   rw[←hel] at hSA
   have hbn:bn=X.k.body.length:=by
    obtain⟨_,_,h9⟩:=(uh HE).cls.body.shape
    rw[hba] at h9
    simp only[Value.slice.injEq] at h9
    exact h9.2.1
   subst hbn
   generalize hmm:X.k.body.length-(r1.length+1)=m at *
   obtain⟨b0,b1,b2,b3,p0,p1,p2,c1,c4,c6⟩:=hbs.cells (uh HE)
   rw[hba] at c6
   have Me:=hide hbs
   have vg:=hide hbt
   have HV:=hide hv
   have HN:=hide hn
   have HR1:=hide hr1
   have HM2:=hide hm2
   have HSA:=hide hSA
   have Ip:=hide hba
   have hmI:((m:Int) == (X.k.body.length:Int))=false:=by rw[beq_eq_false_iff_ne];omega
   have hmN:(m == X.k.body.length)=false:=by rw[beq_eq_false_iff_ne];omega
   have hmL:(m:Int)<(X.k.body.length:Int):=by omega
   clear hbs hbt hv hn hr1 hm2 hSA hel hr hba hmm
   clear b2 b3 p1 p2 c1 c4
   go_wp2_with fail
   go_quiet ((fail))
   have Ny:Hid (Below w1.heap.size w1 (w1.drewN nq)):=jw _ _
   have abr:=hide ((uh Me).stays (uh Ny))
   generalize w1.drewN nq=w2 at *
   obtain⟨b0',b1',b2,b3,p0',p1,p2,c1,c4,c6'⟩:=(uh abr).cells (uh HE)
   rw[uh Ip] at c6'
   clear b0 b1 p0 c6 b2 b3 p1 p2 c1 c4
   go_wp2_with fail
   go_quiet ((fail))
   have Y1:Hid (Below w1.heap.size w1 (w2.drewN nq)):=below_drewN (uh Ny) _
   have aug:=hide ((uh Me).stays (uh Y1))
   generalize w2.drewN nq=w3 at *
   have b1:=((uh aug).cells (uh HE)).b1
   have bz:=(uh aug).bl.free 1
   obtain⟨m1,m2,m3⟩:=(uh aug).move (uh HE) (show m<X.k.body.length by omega)
   have HM1:=hide m1
   have anp:Hid (But (Og X) w (w3.setCell ⟨X.bb,1,none⟩ (.int .i64 ((m:Int)+1)))):=(uh vg).trans ((But.of_below (uh Y1)).trans m3)
   have HKP:Hid (Ae (New w.heap.size w1.heap.size) w1 (w3.setCell ⟨X.bb,1,none⟩ (.int .i64 ((m:Int)+1)))):=(Ae.of_below (uh Y1)).trans (m3.o8 (fun k hk h=>by have:=((uh HE).inS k hk).2;have:=h.1;have:=uh HLO;omega))
   have k0:=((uh HSA).stays rfl (m1.Pj (uh HE))).c0
   have Ze:=hide (Zf el sb (so0+m*6) ov cv av _ ((uh HSA).stays rfl (m1.Pj (uh HE))))
   have HUW:Hid (∀w',Below (w3.setCell ⟨X.bb,1,none⟩ (.int .i64 ((m:Int)+1))).heap.size (w3.setCell ⟨X.bb,1,none⟩ (.int .i64 ((m:Int)+1))) w'->Below X.W0.heap.size X.W0 w'):=fun w' hb=>((uh HM1).stays hb).old
   clear b0' b1' p0' c6' m1 m2 m3
   by_cases hkd:el.kind=kd
   case neg =>
    have HF:Hid (R=none):=(uh HB2).trans (if_neg (fun h=>hkd h.1))
    have ek:(el.kind == kd)=false:=by rw[beq_eq_false_iff_ne];exact hkd
    clear HB2 hkd
    go_wp2
    go_ret2
    rw[uh HF]
    exact⟨⟨_,rfl⟩,(uh HM1).old⟩
   subst hkd
   cases hu:xg el
   ·have HF:Hid (R=none):=(uh HB2).trans (if_neg (fun h=>by rw[hu] at h;cases h.2))
    rw[hu] at Ze
    clear HB2 hu
    go_wp2_with fail
    refine(uh Ze).mono ?_
    rintro e w5 ⟨rfl,hb5⟩
    have zo:=hide hb5
    clear hb5
    go_wp2
    go_ret2
    rw[uh HF]
    exact⟨⟨_,rfl⟩,uh HUW _ (uh zo)⟩
   ·have HF:Hid (R=some (t,el,r1)):=(uh HB2).trans (if_pos ⟨rfl,hu⟩)
    rw[hu] at Ze
    clear HB2 hu
    go_wp2_with fail
    refine(uh Ze).mono ?_
    rintro e w5 ⟨rfl,hb5⟩
    have zo:=hide hb5
    clear hb5
    go_wp2
    go_ret2
    rw[uh HF]
    have hk5:=(uh HKP).trans (Ae.of_below (uh zo))
    have hw5:∀b,New w.heap.size w1.heap.size b->New w.heap.size w5.heap.size b:=fun b h=>⟨h.1,Nat.lt_of_lt_of_le h.2 hk5.1⟩
    refine⟨_,nodes,rfl,⟨(uh HV).o8 Px hk5 (uh HVB),fun b hb=>hw5 b (uh HVB b hb)⟩,jg.mono hw5 _ _ (jg.o8 hk5 _ _ (uh HN)),?_,(uh anp).trans (But.of_below (uh zo)),uh HR1⟩
    rw[←uh HM2]
    exact(uh HM1).stays (uh zo)
end Go.Proofs.YtlcgnbcgmljpaaaGreat
