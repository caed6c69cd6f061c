import Derived.Test.YtflcnhfakcgkeaaGreatOwnF
import Derived.Test.YtflcnhfakcgkeaaGreatOwn
import Derived.Deep.AppendSrc
import Derived.Test.YtflcnhfakcgkeaaGreatCY1
namespace Go.Proofs.YtflcnhfakcgkeaaGreat
open Go.RowKit
set_option linter.unusedSimpArgs false
set_option linter.unusedVariables false
theorem Xv {P:Program} {w:World} (base:Nat) (t ty e:TypeId) (i:TypeInfo) (z:Value) (size bytes:Nat) (ht:P.underlying t=some (.slice e)) (hi:P.info? e=some i) (hz:i.zero=some z)
  (hsize:i.size=size) (hby:i.bytes=bytes) (hzs:z.cells.size=size) (hsz:0<size)
  (v:Value) (n:Nat) (xs:List Value) (hown:w.ownsRow base e size v n xs)
  (a:Addr) (m c:Nat) (news:List Value) (hl:news.length=m*size) (hnews:∀j u,news[j]?=some u->w.cell? (a.add j)=some u) (h1:∀u∈news,u.oneCell'=true)
  (h63:n+m<=maxLen) (hbytes:(n+m)*bytes<=140737488355328) (hbase:base<=w.heap.size) :
  ∃v' w',(Builtin.append_ #[t,t] ty #[v,.slice (some a) m c]).run P w=.ok v' w'∧w'.ownsRow base e size v' (n+m) (xs++news)∧w.grownBy w' v.ownBlock∧(∀b,v'.ownBlock=some b->v.ownBlock=some b∨w.heap.size<=b):=by
 obtain⟨v',w',hr,h2,h3,_⟩:=run_append_own (P:=P) w base t ty e i z size bytes ht hi hz hsize hby hzs hsz v n xs hown a m c news hl hnews h1 h63 hbytes hbase
 refine⟨v',w',hr,h2,h3,fun b hb=>?_⟩
 rcases hown.2 with ⟨rfl,rfl⟩|⟨g,cap,cur,rfl,hbg,hg,hnc,hcm,hcs,htake⟩
 ·have hown2:w.ownsRow w.heap.size e size (.slice none 0 0) 0 xs:=⟨hown.1,Or.inl ⟨rfl,rfl⟩⟩
  obtain⟨v2,w2,hr2,h4,_,_⟩:=run_append_own (P:=P) w w.heap.size t ty e i z size bytes ht hi hz hsize hby hzs hsz _ 0 xs hown2 a m c news hl hnews h1 h63 hbytes (Nat.le_refl _)
  rw[hr] at hr2
  injection hr2 with e1 e2
  subst e1 e2
  exact Or.inr (h4.lt b hb).1
 ·subst hsize
  by_cases hroom:n+m<=cap
  ·have hfit:n*i.size+news.length<=cur.size:=by rw[hl,hcs,←Nat.add_mul];exact Nat.mul_le_mul_right _ hroom
   have hr2:=run_append_room (P:=P) w t ty e i ht hi g n cap cur hg a m c news hl hnews h1 hroom hfit
   rw[hr] at hr2
   injection hr2 with e1 e2
   subst e1
   exact Or.inl hb
  ·have holds:∀j u,xs[j]?=some u->w.cell? ((⟨g,0,none⟩:Addr).add j)=some u:=hown.cells (g:=g) rfl
   have hsmall:n+m<=9223372036854775807:=by simp only[maxLen] at h63;omega
   have hr2:=run_append_grow (P:=P) w t ty e i z ht hi hz ⟨g,0,none⟩ n cap xs hown.1 holds a m c news hl hnews (by omega) (by omega) (growslice_fits (by omega) (by rw[hby];exact hbytes))
   rw[hr] at hr2
   injection hr2 with e1 e2
   subst e1
   simp only[Value.ownBlock,Option.some.injEq] at hb
   exact Or.inr (by omega)
theorem Dl {P:Program} {α:Type} (E:Oa P α) (w:World) {ops:Array Oper} {rest:List Oper} {o:Oper} {a:Act} {Q:Exit->Act->World->Prop} (hgd:o.guard=none) (s x:Operand)
  (ho:o.op=.call { callee:=.builtin .append,args:=#[s,x],argTypes:=#[E.ST,E.ST] })
  (base:Nat) (v:Value) (xs:List α) (hs:a.eval s=v) (hown:iw E w base v xs)
  (eb:Nat) (y:α) (hx:a.eval x=.slice (some ⟨eb,0,none⟩) 1 1) (hy:∀j u,(E.f y)[j]?=some u->w.cell? ⟨eb,j,none⟩=some u) (hb:(xs.length+1)*E.oz<=140737488355328) (hbase:base<=w.heap.size)
  (h:∀v' w',iw E w' base v' (xs++[y])->w.grownBy w' v.ownBlock->(∀b,v'.ownBlock=some b->v.ownBlock=some b∨w.heap.size<=b)->wpList P ops Q rest (a.put o.dst v') w'):wpList P ops Q (o::rest) a w:=by
 obtain⟨i,hi,hz0,hz1,hz2⟩:=info_parts E.hi
 have hlen:xs.length+1<=140737488355328:=Nat.le_trans (Nat.le_mul_of_pos_right _ E.hby) hb
 obtain⟨v',w',hr,h2,h3,h4⟩:=Xv (P:=P) (w:=w) base E.ST o.type E.T i _ E.sz E.oz E.hT hi hz0 hz1 hz2 E.hz E.hsz v xs.length (xs.flatMap E.f) hown ⟨eb,0,none⟩ 1 1 (E.f y) (by rw[E.hf];omega) (fun j u hu=>by rw[Addr.add_lit,Nat.zero_add];exact hy j u hu) (E.h1 y) (by simp[maxLen];omega) hb hbase
 refine wpList_plain hgd fun K hK=>?_
 unfold Oper.wp execOp
 simp only[ho,resolve,invoke,builtin,Sem.run_bind,Sem.run_pure,Result.andThen_ok,List.map_toArray,List.map_cons,List.map_nil,hs,hx,hr]
 refine hK _ _ (h v' w' ?_ h3 h4)
 unfold iw
 rw[List.length_append,List.flatMap_append]
 simpa using h2
theorem aey {P:Program} {α:Type} (E:Oa P α) (w:World) (ty:TypeId) (base:Nat) (v:Value) (xs:List α) (hown:iw E w base v xs)
  (eb:Nat) (y:α) (hy:∀j u,(E.f y)[j]?=some u->w.cell? ⟨eb,j,none⟩=some u) (hb:(xs.length+1)*E.oz<=140737488355328) (hbase:base<=w.heap.size) :
  ∃v' w',(Builtin.append_ #[E.ST,E.ST] ty #[v,.slice (some ⟨eb,0,none⟩) 1 1]).run P w=.ok v' w'∧iw E w' base v' (xs++[y])∧w.grownBy w' v.ownBlock∧(∀b,v'.ownBlock=some b->v.ownBlock=some b∨w.heap.size<=b):=by
 obtain⟨i,hi,hz0,hz1,hz2⟩:=info_parts E.hi
 have hlen:xs.length+1<=140737488355328:=Nat.le_trans (Nat.le_mul_of_pos_right _ E.hby) hb
 obtain⟨v',w',hr,h2,h3,h4⟩:=Xv (P:=P) (w:=w) base E.ST ty E.T i _ E.sz E.oz E.hT hi hz0 hz1 hz2 E.hz E.hsz v xs.length (xs.flatMap E.f) hown ⟨eb,0,none⟩ 1 1 (E.f y) (by rw[E.hf];omega) (fun j u hu=>by rw[Addr.add_lit,Nat.zero_add];exact hy j u hu) (E.h1 y) (by simp[maxLen];omega) hb hbase
 refine⟨v',w',hr,?_,h3,h4⟩
 unfold iw
 rw[List.length_append,List.flatMap_append]
 simpa using h2
theorem aez {P:Program} {α:Type} (E:Oa P α) {R:Nat->World->List Value->α->Prop} (hRf:∀w cs x,R 0 w cs x->cs=E.f x) (w:World) (ty:TypeId)
  (base g cap:Nat) (xs:List α) (hown:iw E w base (.slice (some ⟨g,0,none⟩) xs.length cap) xs)
  (xv:Value) (ys:List α) (hsl:bf E.sz E.oz R 0 w xv ys) (hb:(xs.length+ys.length)*E.oz<=140737488355328) (hbase:base<=w.heap.size) :
  ∃g' cap' w',(Builtin.append_ #[E.ST,E.ST] ty #[.slice (some ⟨g,0,none⟩) xs.length cap,xv]).run P w=.ok (.slice (some ⟨g',0,none⟩) (xs.length+ys.length) cap') w'∧iw E w' base (.slice (some ⟨g',0,none⟩) (xs.length+ys.length) cap') (xs++ys)∧w.grownBy w' (some g):=by
 obtain⟨i,hi,hz0,hz1,hz2⟩:=info_parts E.hi
 obtain⟨ax,cx,rfl,_,hn,hel⟩:=hsl
 have hlen:xs.length+ys.length<=140737488355328:=Nat.le_trans (Nat.le_mul_of_pos_right _ E.hby) hb
 have hcap:xs.length<=cap:=by
  rcases hown.shape with ⟨hh,_⟩|⟨g1,cap1,hv,_,_,h2⟩
  ·cases hh
  ·simp only[Value.slice.injEq] at hv
   obtain⟨_,_,rfl⟩:=hv
   exact h2
 cases ax with
 | none =>
  have hy:ys=[]:=by
   cases ys with
   | nil=>rfl
   | cons y ys =>
    obtain⟨b,o,cs,jr,_⟩:=hel 0 (by simp)
    cases jr
  subst hy
  have hrun:=run_append_room_src (P:=P) w E.ST E.ST ty E.T i E.hT hi g 0 xs.length cap (.slice none 0 cx) 0 [] (Src.ofNil w E.hT cx) (by omega) (fun j hj=>by simp at hj) (fun j hj=>by simp at hj)
  have hsc:w.setCells g (0+xs.length*i.size) []=w:=by simp[World.setCells]
  rw[hsc] at hrun
  exact⟨g,cap,w,by simpa using hrun,by simpa using hown,World.grownBy.refl w _⟩
 | some ad =>
  have hcellA:∀j u,(ys.flatMap E.f)[j]?=some u->w.cell? (ad.add j)=some u:=fun j u hu=>by
   have hj:j<ys.length*E.sz:=by
    have:=(List.getElem?_eq_some_iff.1 hu).1
    rwa[Pn E.f E.sz E.hf] at this
   have hsz:=E.hsz
   have hdiv:j / E.sz<ys.length:=Nat.div_lt_of_lt_mul (by rw[Nat.mul_comm];exact hj)
   have hmod:j % E.sz<E.sz:=Nat.mod_lt _ hsz
   have hjj:j / E.sz*E.sz+j % E.sz=j:=by rw[Nat.mul_comm];exact Nat.div_add_mod j E.sz
   obtain⟨b,oo,cs,jr,_,_,hl,hc,hR⟩:=hel (j / E.sz) hdiv
   simp only[Option.some.injEq] at jr
   subst jr
   have ecs:=hRf _ _ _ hR
   subst ecs
   have hg:=flat_get E.f E.sz E.hf ys (j / E.sz) hdiv (j % E.sz) hmod
   rw[hjj,hu] at hg
   obtain⟨hjl,Z9⟩:=List.getElem?_eq_some_iff.1 hg.symm
   have hcc:=hc (j % E.sz) hjl
   rw[Z9] at hcc
   rw[Addr.add_lit,←hcc]
   congr 2
   omega
  obtain⟨v',w',hr,h1,h2,h3⟩:=run_append_own (P:=P) w base E.ST ty E.T i _ E.sz E.oz E.hT hi hz0 hz1 hz2 E.hz E.hsz _ xs.length (xs.flatMap E.f) hown ad ys.length cx (ys.flatMap E.f) (Pn E.f E.sz E.hf ys) hcellA (fun u hu=>by obtain⟨y,_,hy⟩:=List.mem_flatMap.1 hu;exact E.h1 y u hy) (by simp[maxLen];omega) hb hbase
  obtain⟨hl,hh⟩:=h1
  rcases hh with ⟨rfl,_⟩|⟨g',cap',cur,rfl,hrr⟩
  ·have:=h3.1 rfl
   cases this.1
  ·refine⟨g',cap',w',hr,⟨?_,Or.inr ⟨g',cap',cur,by rw[List.length_append],?_⟩⟩,h2⟩
   ·rw[List.length_append,List.flatMap_append]
    exact hl
   ·rw[List.length_append,List.flatMap_append]
    exact hrr
theorem iw.Dn {P:Program} {α:Type} {E:Oa P α} {w:World} {b1 g:Nat} {v:Value} {xs:List α} {T:TypeId} {cs:Array Value} (h1:iw E w b1 v xs) (h2:dh w g T cs) (ht:E.T≠T):v.ownBlock≠some g:=fun e=>by
 rcases h1.2 with ⟨rfl,_⟩|⟨g',cap,cur,rfl,_,hg,_⟩
 ·cases e
 ·simp only[Value.ownBlock,Option.some.injEq] at e
  subst e
  unfold dh at h2
  rw[hg] at h2
  simp only[Option.some.injEq,Obj.cells.injEq] at h2
  exact ht h2.2.1
theorem iw.Dp {P:Program} {α:Type} {E:Oa P α} {w w':World} {base:Nat} {v:Value} {xs:List α} (h:iw E w base v xs) (hb:∀b,v.ownBlock=some b->w'.heap[b]?=w.heap[b]?):iw E w' base v xs:=by
 obtain⟨h1,h2⟩:=h
 refine⟨h1,?_⟩
 rcases h2 with h2|⟨g,cap,cur,rfl,hg,hh,r⟩
 ·exact Or.inl h2
 ·exact Or.inr ⟨g,cap,cur,rfl,hg,(hb g rfl).trans hh,r⟩
theorem iw.adv {P:Program} {α:Type} {E:Oa P α} {w:World} {b1 g:Nat} {v:Value} {xs:List α} (h1:iw E w b1 v xs) (Qp:v.ownBlock=some g) {es:Array MapEntry} {ck:Nat} (h2:w.heap[g]?=some (.map es ck)):False:=by
 rcases h1.2 with ⟨rfl,_⟩|⟨g',cap,cur,rfl,_,hg,_⟩
 ·cases Qp
 ·simp only[Value.ownBlock,Option.some.injEq] at Qp
  subst Qp
  rw[hg] at h2
  cases h2
def L8:Oa Tryz.prog Nat where
 T:=74
 ST:=75
 sz:=1
 oz:=8
 f:=fun t=>[.pointer (some ⟨t,0,none⟩)]
 z:=.pointer none
 hT:=Tryz.underlying75
 hi:=by kernel_rfl
 hz:=rfl
 hf:=fun _=>rfl
 h1:=fun c u hu=>by
  simp only[List.mem_cons,List.not_mem_nil,or_false] at hu
  rcases hu with rfl
  rfl
 hsz:=by decide
 hby:=by decide
def xk (b:Nat):Value:=.pointer (some ⟨b,0,none⟩)
def He (vs:List gy) (D:List Nat) (s:ByteArray):Value:=if jc vs s<vs.length then xk (D.getD (jc vs s) 0) else .pointer none
def Gu (v:gy) (cv:Value) (p:Nat) (g:Int) (fz:Value):Array Value:=#[.string v.name,.int .i64 v.type,cv,xk p,.int .i64 g,fz]
structure Sc (W w:World) (nv fz:Value) (vs:List gy) (G:List Int) (sb vb:Nat) (ov:Value) (D:List Nat) (C L:List cu->Option Nat) (N:Nat):Prop where
 old:Below W.heap.size W w
 trie:Trie w W.heap.size (fun x=>x=vb) C L N
 tq:dh w sb 78 #[nv,ov,.map (some vb)]
 ord:iw L8 w W.heap.size ov D
 Eh:D.length=vs.length
 decl:∀k (hk:k<vs.length),∃cv p,dh w (D.getD k 0) 73 (Gu vs[k] cv p (G.getD k 0) fz)∧C vs[k].clock=some p∧bf 2 24 jm 0 W cv vs[k].clock
 inj:∀j k,j<vs.length->k<vs.length->D.getD j 0=D.getD k 0->j=k
 Zl:∀k,k<vs.length->W.heap.size<=D.getD k 0
 vars:∃n f,n<=vs.length∧Dh Tryz.prog 9 (.pointer none) w vb n f∧∀s,f s=He vs D s
 slo:W.heap.size<=sb
 vlo:W.heap.size<=vb
theorem Et {w:World} {b:Nat} {T U:TypeId} {cs cs':Array Value} (h:dh w b T cs) (hne:T≠U):¬dh w b U cs':=fun h'=>by
 have h9:=h.symm.trans h'
 simp only[Option.some.injEq,Obj.cells.injEq] at h9
 exact hne h9.2.1
theorem Trie.axp {w:World} {lo:Nat} {X:Nat->Prop} {C L:List cu->Option Nat} {N:Nat} (h:Trie w lo X C L N) {b:Nat} {T:TypeId} {c:Value} {cs:List Value} (hb:dh w b T ⟨c::cs⟩) (ks:List cu):L ks≠some b:=fun e=>by
 have h1:=(h.map ks b e).1.Qq 0
 rw[hb.cell (i:=0) (v:=c) rfl] at h1
 cases h1
theorem Grow.blk {lo:Nat} {w w':World} {X:Nat->Prop} {C L C' L':List cu->Option Nat} {N:Nat} (g:Grow lo w C L w' C' L') (h:Trie w lo X C L N) {b:Nat} {T:TypeId} {c:Value} {cs:List Value} (hb:dh w b T ⟨c::cs⟩) (hT:T≠112):dh w' b T ⟨c::cs⟩ :=
 (g.keep.block b hb.lt (fun cs'=>Et hb hT) (fun ks=>h.axp hb ks)).trans hb
theorem Grow.old {lo:Nat} {w w' W:World} {C L C' L':List cu->Option Nat} (g:Grow lo w C L w' C' L') (h:Below W.heap.size W w) (hlo:W.heap.size<=lo):Below W.heap.size W w' :=
 ⟨g.keep.os.trans h.os,g.keep.tape.trans h.tape,g.keep.output.trans h.output,Nat.le_trans h.size g.keep.size,fun k hk=>(g.keep.low k (by omega)).trans (h.block k hk)⟩
theorem Grow.row {lo:Nat} {w w':World} {X:Nat->Prop} {C L C' L':List cu->Option Nat} {N:Nat} (g:Grow lo w C L w' C' L') (h:Trie w lo X C L N) {base:Nat} {v:Value} {D:List Nat} (ho:iw L8 w base v D):iw L8 w' base v D:=by
 refine ho.Dp (fun b hb=>g.keep.block b (ho.lt b hb).2 (fun cs h1=>iw.Dn ho h1 (by decide) hb) (fun ks e=>?_))
 have h1:=(h.map ks b e).1
 obtain⟨D9,⟨es,ck,h2,_⟩,_⟩:=h1
 exact ho.adv hb h2
theorem Grow.a1n {lo:Nat} {w w':World} {X:Nat->Prop} {C L C' L':List cu->Option Nat} {N:Nat} (g:Grow lo w C L w' C' L') (h:Trie w lo X C L N) {P:Program} {k:TypeId} {z:Value} {b n:Nat} {f:ByteArray->Value} (hm:Dh P k z w b n f) (hX:X b):Dh P k z w' b n f:=by
 refine hm.block (g.keep.block b hm.lt (fun cs h1=>?_) (fun ks e=>(h.map ks b e).2.2 hX))
 obtain⟨D9,⟨es,ck,h2,_⟩,_⟩:=hm
 have h9:=h2.symm.trans h1
 cases h9
theorem Sc.grow {W w w':World} {nv fz:Value} {vs:List gy} {G:List Int} {sb vb:Nat} {ov:Value} {D:List Nat} {C L C' L':List cu->Option Nat} {N N':Nat} (h:Sc W w nv fz vs G sb vb ov D C L N) (g:Grow W.heap.size w C L w' C' L') (t:Trie w' W.heap.size (fun x=>x=vb) C' L' N'):Sc W w' nv fz vs G sb vb ov D C' L' N':=by
 refine⟨g.old h.old (Nat.le_refl _),t,g.blk h.trie h.tq (by decide),g.row h.trie h.ord,h.Eh,fun k hk=>?_,h.inj,h.Zl,?_,h.slo,h.vlo⟩
 ·obtain⟨cv,p,h1,h2,h3⟩:=h.decl k hk
  exact⟨cv,p,g.blk h.trie h1 (by decide),g.c _ _ h2,h3⟩
 ·obtain⟨n,f,h1,h2,h3⟩:=h.vars
  exact⟨n,f,h1,g.a1n h.trie h2 rfl,h3⟩
theorem Sc.below {W w w':World} {nv fz:Value} {vs:List gy} {G:List Int} {sb vb:Nat} {ov:Value} {D:List Nat} {C L:List cu->Option Nat} {N:Nat} (h:Sc W w nv fz vs G sb vb ov D C L N) (hb:Below w.heap.size w w'):Sc W w' nv fz vs G sb vb ov D C L N :=
 h.grow (Grow.of_below hb h.old.size) (h.trie.below hb)
theorem axq (a s:ByteArray):(a.toList == s.toList)=true↔s=a:=by
 rw[beq_iff_eq,ByteArray.toList_eq,ByteArray.toList_eq]
 exact⟨fun h=>(bytes_eq h).symm,fun h=>by rw[h]⟩
theorem abj (a s:ByteArray):(a.toList == s.toList)=true↔a=s:=(axq a s).trans eq_comm
theorem amo (vs:List gy) (v:gy) (s:ByteArray):jc (vs++[v]) s=if jc vs s<vs.length then jc vs s else if v.name=s then vs.length else vs.length+1:=by
 unfold jc
 rw[List.findIdx_append]
 by_cases h:List.findIdx (fun v=>v.name.toList == s.toList) vs<vs.length
 ·rw[if_pos h,if_pos h]
 ·rw[if_neg h,if_neg h,List.findIdx_cons]
  by_cases e:v.name=s
  ·rw[if_pos e,(abj v.name s).2 e]
   simp
  ·rw[if_neg e,Bool.eq_false_iff.2 (fun h9=>e ((abj v.name s).1 h9))]
   simp
   omega
theorem af5 (vs:List gy) (v:gy) (D:List Nat) (db:Nat) (hD:D.length=vs.length) (s:ByteArray):He (vs++[v]) (D++[db]) s=if jc vs s<vs.length then He vs D s else if v.name=s then xk db else .pointer none:=by
 unfold He
 rw[amo,List.length_append,List.length_singleton]
 by_cases h:jc vs s<vs.length
 ·rw[if_pos h,if_pos (by omega),if_pos h,if_pos h]
  congr 1
  rw[List.getD_eq_getElem?_getD,List.getD_eq_getElem?_getD,List.getElem?_append_left (by omega)]
 ·rw[if_neg h,if_neg h]
  by_cases e:v.name=s
  ·rw[if_pos e,if_pos e,if_pos (by omega)]
   congr 1
   rw[List.getD_eq_getElem?_getD,List.getElem?_append_right (by omega),hD,Nat.sub_self]
   rfl
  ·rw[if_neg e,if_neg e,if_neg (by omega)]
theorem Trie.same {w w':World} {lo:Nat} {X:Nat->Prop} {C L:List cu->Option Nat} {N:Nat} (h:Trie w lo X C L N) (hs:w.heap.size<=w'.heap.size) (hc:∀ks b,C ks=some b->w'.heap[b]?=w.heap[b]?) (hl:∀ks M,L ks=some M->w'.heap[M]?=w.heap[M]?):Trie w' lo X C L N :=
 ⟨h.inj,h.ab9,h.acd,h.up,fun ks b hk=>⟨(hc ks b hk).trans (h.blk ks b hk).1,(h.blk ks b hk).2⟩,fun ks M hk=>⟨(h.map ks M hk).1.block (hl ks M hk),(h.map ks M hk).2⟩,fun x hx=>Nat.lt_of_lt_of_le (h.old x hx) hs⟩
structure Sc1 (W w:World) (nv fz:Value) (vs:List gy) (G:List Int) (sb vb:Nat) (ov:Value) (D:List Nat) (C L:List cu->Option Nat) (N:Nat) (us:List gy):Prop where
 old:Below W.heap.size W w
 trie:Trie w W.heap.size (fun x=>x=vb) C L N
 tq:dh w sb 78 #[nv,ov,.map (some vb)]
 ord:iw L8 w W.heap.size ov D
 Eh:D.length=vs.length
 decl:∀k (hk:k<vs.length),∃cv p,dh w (D.getD k 0) 73 (Gu vs[k] cv p (G.getD k 0) fz)∧C vs[k].clock=some p∧bf 2 24 jm 0 W cv vs[k].clock
 inj:∀j k,j<vs.length->k<vs.length->D.getD j 0=D.getD k 0->j=k
 Zl:∀k,k<vs.length->W.heap.size<=D.getD k 0
 vars:∃n f,n<=us.length∧Dh Tryz.prog 9 (.pointer none) w vb n f∧∀s,f s=He us (D.take us.length) s
 slo:W.heap.size<=sb
 vlo:W.heap.size<=vb
theorem Sc.order {W w w1:World} {nv fz:Value} {vs:List gy} {G:List Int} {sb vb:Nat} {ov ov':Value} {D:List Nat} {C L:List cu->Option Nat} {N:Nat} (h:Sc W w nv fz vs G sb vb ov D C L N) (hG:G.length=vs.length) {v:gy} {cv:Value} {p db:Nat} {g:Int} (hdb:dh w db 73 (Gu v cv p g fz)) (hp:C v.clock=some p) (hcv:bf 2 24 jm 0 W cv v.clock) (hlo:W.heap.size<=db) (hnew:∀k,k<vs.length->D.getD k 0≠db)
  (ho:iw L8 w1 W.heap.size ov' (D++[db])) (hg:w.grownBy w1 ov.ownBlock):Sc1 W (w1.setCell ⟨sb,1,none⟩ ov') nv fz (vs++[v]) (G++[g]) sb vb ov' (D++[db]) C L N vs:=by
 have axr:dh w1 sb 78 #[nv,ov,.map (some vb)]:=(hg.block sb h.tq.lt (fun e=>iw.Dn h.ord h.tq (by decide) e.symm)).trans h.tq
 have same:∀b,b<w.heap.size->b≠sb->ov.ownBlock≠some b->(w1.setCell ⟨sb,1,none⟩ ov').heap[b]?=w.heap[b]?:=fun b hb h1 h2=>by
  rw[Below.heap_setCell _ _ _ _ (by simpa using h1)]
  exact hg.block b hb (fun e=>h2 e.symm)
 have hsz:w.heap.size<=(w1.setCell ⟨sb,1,none⟩ ov').heap.size:=by
  simp only[World.setCell,Array.size_modify]
  exact hg.size
 have tq:∀{b:Nat} {T:TypeId} {cs:Array Value},dh w b T cs->T≠78->T≠74->dh (w1.setCell ⟨sb,1,none⟩ ov') b T cs:=fun {b T cs} hb h1 h2 =>
  (same b hb.lt (fun e=>Et h.tq (fun e9=>h1 e9.symm) (e▸hb)) (iw.Dn h.ord hb (fun e=>h2 e.symm))).trans hb
 have smap:∀{b:Nat} {es:Array MapEntry} {ck:Nat},w.heap[b]?=some (.map es ck)->(w1.setCell ⟨sb,1,none⟩ ov').heap[b]?=w.heap[b]?:=fun {b es ck} hb=>by
  have hlt:b<w.heap.size:=(Array.getElem?_eq_some_iff.1 hb).1
  refine same b hlt (fun e=>?_) (fun e=>h.ord.adv e hb)
  rw[e] at hb
  have h9:=hb.symm.trans h.tq
  cases h9
 have hnf:=iw.Dn ho axr (by decide)
 refine⟨?_,h.trie.same hsz (fun ks b hk=>?_) (fun ks M hk=>?_),axr.set 1 ov',ho.Dp (fun b hb=>by rw[Below.heap_setCell _ _ _ _ (fun e=>hnf (by have e':b=sb:=e;rw[←e'];exact hb))]),by rw[List.length_append,List.length_append,h.Eh];rfl,fun k hk=>?_,fun j k hj hk e=>?_,fun k hk=>?_,?_,h.slo,h.vlo⟩
 ·refine⟨hg.os.trans h.old.os,hg.tape.trans h.old.tape,hg.output.trans h.old.output,Nat.le_trans h.old.size hsz,fun k hk=>?_⟩
  have h1:=h.slo
  have h2:=h.old.size
  exact(same k (by omega) (by omega) (fun e=>by have:=(h.ord.lt k e).1;omega)).trans (h.old.block k hk)
 ·exact(tq (h.trie.blk ks b hk).1 (by decide) (by decide)).trans (h.trie.blk ks b hk).1.symm
 ·obtain⟨D9,⟨es,ck,h2,_⟩,_⟩:=(h.trie.map ks M hk).1
  exact smap h2
 ·rw[List.length_append,List.length_singleton] at hk
  by_cases c:k<vs.length
  ·obtain⟨cv',p',h1,h2,h3⟩:=h.decl k c
   have e1:(vs++[v])[k]'(by simp;omega)=vs[k]:=List.getElem_append_left c
   rw[e1]
   refine⟨cv',p',?_,h2,h3⟩
   rw[List.getD_eq_getElem?_getD (l:=D++[db]),List.getElem?_append_left (by rw[h.Eh];exact c),←List.getD_eq_getElem?_getD,List.getD_eq_getElem?_getD (l:=G++[g]),List.getElem?_append_left (by omega),←List.getD_eq_getElem?_getD]
   exact tq h1 (by decide) (by decide)
  ·have e:k=vs.length:=by omega
   subst e
   have e1:(vs++[v])[vs.length]'(by simp)=v:=by simp
   rw[e1]
   refine⟨cv,p,?_,hp,hcv⟩
   rw[List.getD_eq_getElem?_getD (l:=D++[db]),List.getElem?_append_right (by rw[h.Eh];exact Nat.le_refl _),h.Eh,Nat.sub_self,List.getD_eq_getElem?_getD (l:=G++[g]),List.getElem?_append_right (by omega),hG,Nat.sub_self]
   exact tq hdb (by decide) (by decide)
 ·rw[List.length_append,List.length_singleton] at hj hk
  have gd:∀q,q<vs.length->(D++[db]).getD q 0=D.getD q 0:=fun q hq=>by
   rw[List.getD_eq_getElem?_getD,List.getElem?_append_left (by rw[h.Eh];exact hq),←List.getD_eq_getElem?_getD]
  have gl:(D++[db]).getD vs.length 0=db:=by
   rw[List.getD_eq_getElem?_getD,List.getElem?_append_right (by rw[h.Eh];exact Nat.le_refl _),h.Eh,Nat.sub_self]
   rfl
  by_cases cj:j<vs.length
  ·by_cases ck:k<vs.length
   ·rw[gd j cj,gd k ck] at e
    exact h.inj j k cj ck e
   ·have e2:k=vs.length:=by omega
    rw[e2,gd j cj,gl] at e
    exact absurd e (hnew j cj)
  ·have e1:j=vs.length:=by omega
   by_cases ck:k<vs.length
   ·rw[e1,gd k ck,gl] at e
    exact absurd e.symm (hnew k ck)
   ·omega
 ·rw[List.length_append,List.length_singleton] at hk
  by_cases c:k<vs.length
  ·rw[List.getD_eq_getElem?_getD,List.getElem?_append_left (by rw[h.Eh];exact c),←List.getD_eq_getElem?_getD]
   exact h.Zl k c
  ·have e:k=vs.length:=by omega
   rw[e,List.getD_eq_getElem?_getD,List.getElem?_append_right (by rw[h.Eh];exact Nat.le_refl _),h.Eh,Nat.sub_self]
   exact hlo
 ·obtain⟨n,f,h1,h2,h3⟩:=h.vars
  refine⟨n,f,h1,h2.block ?_,fun s=>?_⟩
  ·obtain⟨D9,⟨es,ck,h4,_⟩,_⟩:=h2
   exact smap h4
  ·rw[h3 s,←h.Eh,List.take_left]
theorem Sc.axt {W w:World} {nv fz:Value} {vs:List gy} {G:List Int} {sb vb:Nat} {ov:Value} {D:List Nat} {C L:List cu->Option Nat} {N:Nat} (h:Sc W w nv fz vs G sb vb ov D C L N) {db:Nat} {c0:Value} {cs:List Value} (hdb:dh w db 73 ⟨c0::cs⟩) (hlo:W.heap.size<=db) (hnew:∀k,k<vs.length->D.getD k 0≠db) (j:Nat) (v:Value):Sc W (w.setCell ⟨db,j,none⟩ v) nv fz vs G sb vb ov D C L N:=by
 have same:∀b,b≠db->(w.setCell ⟨db,j,none⟩ v).heap[b]?=w.heap[b]?:=fun b h1=>Below.heap_setCell _ _ _ _ (by simpa using h1)
 have hsz:(w.setCell ⟨db,j,none⟩ v).heap.size=w.heap.size:=by simp[World.setCell]
 have aac:∀{b:Nat} {es:Array MapEntry} {ck:Nat},w.heap[b]?=some (.map es ck)->b≠db:=fun {b es ck} hb e=>by
  rw[e] at hb
  have h9:=hb.symm.trans hdb
  cases h9
 refine⟨⟨h.old.os,h.old.tape,h.old.output,by rw[hsz];exact h.old.size,fun k hk=>(same k (by omega)).trans (h.old.block k hk)⟩,h.trie.same (Nat.le_of_eq hsz.symm) (fun ks b hk=>same b (fun e=>Et hdb (by decide) (e▸(h.trie.blk ks b hk).1))) (fun ks M hk=>?_),(same sb (fun e=>Et hdb (by decide) (e▸h.tq))).trans h.tq,h.ord.Dp (fun b hb=>same b (fun e=>iw.Dn h.ord hdb (by decide) (e▸hb))),h.Eh,fun k hk=>?_,h.inj,h.Zl,?_,h.slo,h.vlo⟩
 ·obtain⟨D9,⟨es,ck,h2,_⟩,_⟩:=(h.trie.map ks M hk).1
  exact same M (aac h2)
 ·obtain⟨cv,p,h1,h2,h3⟩:=h.decl k hk
  exact⟨cv,p,(same _ (hnew k hk)).trans h1,h2,h3⟩
 ·obtain⟨n,f,h1,h2,h3⟩:=h.vars
  refine⟨n,f,h1,h2.block ?_,h3⟩
  obtain⟨D9,⟨es,ck,h4,_⟩,_⟩:=h2
  exact same vb (aac h4)
theorem Sc1.have_ {W w:World} {nv fz:Value} {vs:List gy} {v:gy} {G:List Int} {sb vb:Nat} {ov:Value} {D:List Nat} {db:Nat} {C L:List cu->Option Nat} {N:Nat} (h:Sc1 W w nv fz (vs++[v]) G sb vb ov (D++[db]) C L N vs) (hk:jc vs v.name<vs.length):Sc W w nv fz (vs++[v]) G sb vb ov (D++[db]) C L N:=by
 have hD:D.length=vs.length:=by
  have h9:=h.Eh
  rw[List.length_append,List.length_append] at h9
  simpa using h9
 obtain⟨n,f,h1,h2,h3⟩:=h.vars
 refine⟨h.old,h.trie,h.tq,h.ord,h.Eh,h.decl,h.inj,h.Zl,⟨n,f,by rw[List.length_append];omega,h2,fun s=>?_⟩,h.slo,h.vlo⟩
 rw[h3 s,←hD,List.take_left,af5 vs v D db hD s]
 by_cases c:jc vs s<vs.length
 ·rw[if_pos c]
 ·rw[if_neg c,if_neg (show ¬v.name=s from fun e=>c (by rw[←e];exact hk))]
  unfold He
  rw[if_neg c]
theorem Sc1.put {W w:World} {nv fz:Value} {vs:List gy} {v:gy} {G:List Int} {sb vb:Nat} {ov:Value} {D:List Nat} {db:Nat} {C L:List cu->Option Nat} {N:Nat} (h:Sc1 W w nv fz (vs++[v]) G sb vb ov (D++[db]) C L N vs) (hk:¬jc vs v.name<vs.length) (hs:v.name.size<=maxLen) (hn:vs.length<maxLen):∃w',(Instr.mapUpdate 76 (.map (some vb)) (.string v.name) (xk db)).run Tryz.prog w=.ok () w'∧Sc W w' nv fz (vs++[v]) G sb vb ov (D++[db]) C L N∧w.grownBy w' (some vb):=by
 have hD:D.length=vs.length:=by
  have h9:=h.Eh
  rw[List.length_append,List.length_append] at h9
  simpa using h9
 obtain⟨n,f,h1,h2,h3⟩:=h.vars
 obtain⟨w',f',hrun,hM,hf1,hf2,hg⟩:=h2.store (t:=76) Tryz.underlying9 Tryz.underlying76 (by omega) hs (xk db)
 have hvm:∃es ck,w.heap[vb]?=some (.map es ck):=by
  obtain⟨D9,⟨es,ck,h4,_⟩,_⟩:=h2
  exact⟨es,ck,h4⟩
 obtain⟨es,ck,hvm⟩:=hvm
 have same:∀b,b<w.heap.size->b≠vb->w'.heap[b]?=w.heap[b]?:=fun b hb hne=>hg.block b hb (fun e=>by simp only[Option.some.injEq] at e;exact hne e)
 have tq:∀{b:Nat} {T:TypeId} {cs:Array Value},dh w b T cs->dh w' b T cs:=fun {b T cs} hb=>(same b hb.lt (fun e=>by
  rw[e] at hb
  have h9:=hvm.symm.trans hb
  cases h9)).trans hb
 refine⟨w',hrun,⟨?_,h.trie.same hg.size (fun ks b hk=>(tq (h.trie.blk ks b hk).1).trans (h.trie.blk ks b hk).1.symm) (fun ks M hk=>same M (h.trie.map ks M hk).1.lt (fun e=>(h.trie.map ks M hk).2.2 e)),tq h.tq,h.ord.Dp (fun b hb=>same b (h.ord.lt b hb).2 (fun e=>h.ord.adv hb (e▸hvm))),h.Eh,fun k hk=>?_,h.inj,h.Zl,⟨n+1,f',by rw[List.length_append,List.length_singleton];omega,hM,fun s=>?_⟩,h.slo,h.vlo⟩,hg⟩
 ·have h9:=h.vlo
  exact⟨hg.os.trans h.old.os,hg.tape.trans h.old.tape,hg.output.trans h.old.output,Nat.le_trans h.old.size hg.size,fun k hk=>(same k (Nat.lt_of_lt_of_le hk h.old.size) (by omega)).trans (h.old.block k hk)⟩
 ·obtain⟨cv,p,g1,g2,g3⟩:=h.decl k hk
  exact⟨cv,p,tq g1,g2,g3⟩
 ·rw[af5 vs v D db hD s]
  by_cases c:jc vs s<vs.length
  ·rw[if_pos c,hf2 s (fun e=>hk (by rw[←e];exact c)),h3 s,←hD,List.take_left]
  ·rw[if_neg c]
   by_cases e:v.name=s
   ·rw[if_pos e,←e]
    exact hf1
   ·rw[if_neg e,hf2 s (fun e2=>e e2.symm),h3 s,←hD,List.take_left]
    unfold He
    rw[if_neg c]
end Go.Proofs.YtflcnhfakcgkeaaGreat
