import Derived.Test.YtlcgnbcgmljpaaaGreatMI17
import Derived.Deep.RegionLaw
import Derived.Test.YtlcgnbcgmljpaaaGreatData
import Derived.Shelf.Pu.Clone
import Derived.Deep.RegionHeld3
namespace Go.Proofs.YtlcgnbcgmljpaaaGreat
open Go.RowKit
set_option linter.unusedSimpArgs false
set_option linter.unusedVariables false
theorem Xb {P:Program} {α:Type} (E:wo P α) {R:Nat->World->List Value->α->Prop} (hRf:∀w cs x,R 0 w cs x->cs=E.f x) (w:World) {ops:Array Oper} {o:Oper} {a:Act} {K:Act->World->Prop} {Q:Exit->Act->World->Prop} {Er:Prop} (hgd:o.guard=none) (s x:Operand)
  (ho:o.op=.call { callee:=.builtin .append,args:=#[s,x],argTypes:=#[E.ST,E.ST] })
  (base g cap:Nat) (xs:List α) (hs:a.eval s=.slice (some ⟨g,0,none⟩) xs.length cap) (hown:dw E w base (.slice (some ⟨g,0,none⟩) xs.length cap) xs)
  (xv:Value) (hx:a.eval x=xv) (ys:List α) (hsl:bf E.sz E.jh R 0 w xv ys) (hb:(xs.length+ys.length)*E.jh<=140737488355328) (hbase:base<=w.heap.size)
  (h:∀g' cap' w',dw E w' base (.slice (some ⟨g',0,none⟩) (xs.length+ys.length) cap') (xs++ys)->w.grownBy w' (some g)->K (a.put o.dst (.slice (some ⟨g',0,none⟩) (xs.length+ys.length) cap')) w') :
  if Region.wanted o (yielded ops a.tmps)=true then Oper.wp P o a w K Q else Er:=by
 have hwant:Region.wanted o (yielded ops a.tmps)=true:=by simp[Region.wanted,hgd]
 rw[if_pos hwant]
 obtain⟨i,hi,hz0,hz1,hz2⟩:=info_parts E.hi
 obtain⟨ax,cx,rfl,_,hn,hel⟩:=hsl
 have hlen:xs.length+ys.length<=140737488355328:=Nat.le_trans (Nat.le_mul_of_pos_right _ E.hby) hb
 have hcap:xs.length<=cap:=by
  rcases hown.shape with ⟨hh,_⟩|⟨g1,cap1,hv,_,_,h2⟩
  ·cases hh
  ·simp only[Value.slice.injEq] at hv
   obtain⟨_,_,rfl⟩:=hv
   exact h2
 cases ax with
 | none =>
  have hy:ys=[]:=by
   cases ys with
   | nil=>rfl
   | cons y ys =>
    obtain⟨b,o,cs,ql,_⟩:=hel 0 (by simp)
    cases ql
  subst hy
  have hrun:=run_append_room_src (P:=P) w E.ST E.ST o.type E.T i E.hT hi g 0 xs.length cap (.slice none 0 cx) 0 [] (Src.ofNil w E.hT cx) (by omega) (fun j hj=>by simp at hj) (fun j hj=>by simp at hj)
  unfold Oper.wp execOp
  simp only[ho,resolve,invoke,builtin,Sem.run_bind,Sem.run_pure,Result.andThen_ok,List.map_toArray,List.map_cons,List.map_nil,hs,hx,hrun,List.length_nil]
  have hsc:w.setCells g (0+xs.length*i.size) []=w:=by simp[World.setCells]
  rw[hsc]
  have:=h g cap w (by simpa using hown) (World.grownBy.refl w _)
  simp only[List.length_nil,Nat.add_zero] at this ⊢
  exact this
 | some ad =>
  have hcellA:∀j u,(ys.flatMap E.f)[j]?=some u->w.cell? (ad.add j)=some u:=fun j u hu=>by
   have hj:j<ys.length*E.sz:=by
    have:=(List.getElem?_eq_some_iff.1 hu).1
    rwa[Mc E.f E.sz E.hf] at this
   have hsz:=E.hsz
   have hdiv:j / E.sz<ys.length:=Nat.div_lt_of_lt_mul (by rw[Nat.mul_comm];exact hj)
   have hmod:j % E.sz<E.sz:=Nat.mod_lt _ hsz
   have hjj:j / E.sz*E.sz+j % E.sz=j:=by rw[Nat.mul_comm];exact Nat.div_add_mod j E.sz
   obtain⟨b,oo,cs,ql,_,_,hl,hc,hR⟩:=hel (j / E.sz) hdiv
   simp only[Option.some.injEq] at ql
   subst ql
   have ecs:=hRf _ _ _ hR
   subst ecs
   have hg:=flat_get E.f E.sz E.hf ys (j / E.sz) hdiv (j % E.sz) hmod
   rw[hjj,hu] at hg
   obtain⟨hjl,hju⟩:=List.getElem?_eq_some_iff.1 hg.symm
   have hcc:=hc (j % E.sz) hjl
   rw[hju] at hcc
   rw[Addr.add_lit,←hcc]
   congr 2
   omega
  refine wp_append_own w s x E.ST ho base E.T i _ E.sz E.jh E.hT hi hz0 hz1 hz2 E.hz E.hsz _ xs.length (xs.flatMap E.f) hs hown ad ys.length cx (ys.flatMap E.f) hx (Mc E.f E.sz E.hf ys) hcellA (fun u hu=>?_) (by simp[maxLen];omega) hb hbase ?_
  ·obtain⟨y,_,hy⟩:=List.mem_flatMap.1 hu
   exact E.h1 y u hy
  ·intro v' w' h1 h2 h3
   obtain⟨hl,hh⟩:=h1
   rcases hh with ⟨rfl,_⟩|⟨g',cap',cur,rfl,hr⟩
   ·have:=h3.1 rfl
    cases this.1
   ·refine h g' cap' w' ⟨?_,Or.inr ⟨g',cap',cur,by rw[List.length_append],?_⟩⟩ h2
    ·rw[List.length_append,List.flatMap_append]
     exact hl
    ·rw[List.length_append,List.flatMap_append]
     exact hr
def yh:wo Tryz.prog gy where
 T:=79
 ST:=39
 sz:=2
 jh:=24
 f:=fun t=>[.string t.name,.int .i64 t.type]
 z:=.agg #[.string ByteArray.empty,.int .i64 0]
 hT:=Tryz.underlying39
 hi:=by kernel_rfl
 hz:=rfl
 hf:=fun _=>rfl
 h1:=fun c u hu=>by
  simp only[List.mem_cons,List.not_mem_nil,or_false] at hu
  rcases hu with rfl|rfl<;>rfl
 hsz:=by decide
 hby:=by decide
theorem alz:∀(w:World) (cs:List Value) (x:gy),xk 0 w cs x->cs=yh.f x:=fun _ _ _ h=>h.1
abbrev Raw (sz:Nat):={ cs:List Value // cs.length=sz∧∀u,u∈cs->u.oneCell'=true }
def ahu (T ST sz jh:Nat) (z:Value) (hT:Tryz.prog.underlying ST=some (.slice T)) (hi:(Tryz.prog.info? T).map (fun i=>(i.zero,i.size,i.bytes))=some (some z,sz,jh)) (hz:z.cells.size=sz) (hsz:0<sz) (hby:0<jh):wo Tryz.prog (Raw sz) where
 T:=T
 ST:=ST
 sz:=sz
 jh:=jh
 f:=fun c=>c.1
 z:=z
 hT:=hT
 hi:=hi
 hz:=hz
 hf:=fun c=>c.2.1
 h1:=fun c=>c.2.2
 hsz:=hsz
 hby:=hby
def Fg:wo Tryz.prog (Raw 1):=ahu 57 58 1 24 (.slice none 0 0) Tryz.underlying58 (by kernel_rfl) rfl (by decide) (by decide)
def zh:wo Tryz.prog (Raw 6):=ahu 60 36 6 104 (.agg #[.int .i64 0,.string ByteArray.empty,.int .i64 0,.slice none 0 0,.slice none 0 0,.slice none 0 0]) Tryz.underlying36 (by kernel_rfl) rfl (by decide) (by decide)
def uj:wo Tryz.prog (Raw 7):=ahu 43 26 7 160 (.agg #[.string ByteArray.empty,.slice none 0 0,.slice none 0 0,.slice none 0 0,.slice none 0 0,.slice none 0 0,.slice none 0 0]) Tryz.underlying26 (by kernel_rfl) rfl (by decide) (by decide)
def gu (v:Value):List Nat:=v.ownBlock.toList
theorem iq {v:Value} {b:Nat}:b∈gu v↔v.ownBlock=some b:=by
 unfold gu
 rw[Option.mem_toList]
def zn {α β γ:Type} (R:α->β->γ->Prop):List α->List β->List γ->Prop
 | [],[],[]=>True
 | a :: la,b :: lb,c :: lc=>R a b c ∧ zn R la lb lc
 | _,_,_=>False
theorem zn.nil {α β γ:Type} {R:α->β->γ->Prop}:zn R [] [] []:=trivial
theorem zn.cons {α β γ:Type} {R:α->β->γ->Prop} {a:α} {b:β} {c:γ} {la:List α} {lb:List β} {lc:List γ} (h:R a b c) (k:zn R la lb lc):zn R (a :: la) (b :: lb) (c :: lc):=⟨h,k⟩
theorem zn.ind {α β γ:Type} {R:α->β->γ->Prop} {motive:∀ la lb lc,zn R la lb lc->Prop} (nil:motive [] [] [] zn.nil) (cons:∀ {a b c la lb lc} (h:R a b c) (k:zn R la lb lc),motive la lb lc k->motive (a :: la) (b :: lb) (c :: lc) (zn.cons h k)):∀ {la lb lc} (t:zn R la lb lc),motive la lb lc t
 | [],[],[],_=>nil
 | _ :: _,_ :: _,_ :: _,t=>cons t.1 t.2 (zn.ind nil cons t.2)
theorem zn.len {α β γ:Type} {R:α->β->γ->Prop} {la:List α} {lb:List β} {lc:List γ} (h:zn R la lb lc):la.length=lb.length∧lc.length=lb.length:=by
 induction h using zn.ind with
 | nil=>exact⟨rfl,rfl⟩
 | cons _ _ ih=>exact⟨by simp[ih.1],by simp[ih.2]⟩
theorem zn.app {α β γ:Type} {R:α->β->γ->Prop} {la la':List α} {lb lb':List β} {lc lc':List γ} (h:zn R la lb lc) (k:zn R la' lb' lc'):zn R (la++la') (lb++lb') (lc++lc'):=by
 induction h using zn.ind with
 | nil=>exact k
 | cons h _ ih=>exact .cons h ih
theorem zn.get {α β γ:Type} {R:α->β->γ->Prop} {la:List α} {lb:List β} {lc:List γ} (h:zn R la lb lc):∀i (h1:i<la.length) (h2:i<lb.length) (h3:i<lc.length),R la[i] lb[i] lc[i]:=by
 induction h using zn.ind with
 | nil=>intro i h1;exact absurd h1 (Nat.not_lt_zero _)
 | cons h _ ih =>
  intro i h1 h2 h3
  cases i with
  | zero=>exact h
  | succ i=>exact ih i (by simpa using h1) (by simpa using h2) (by simpa using h3)
theorem zn.mono {α β γ:Type} {R S:α->β->γ->Prop} {la:List α} {lb:List β} {lc:List γ} (h:zn R la lb lc) (k:∀a b c,a∈la->b∈lb->c∈lc->R a b c->S a b c):zn S la lb lc:=by
 induction h using zn.ind with
 | nil=>exact .nil
 | cons h _ ih=>exact .cons (k _ _ _ (List.mem_cons_self ..) (List.mem_cons_self ..) (List.mem_cons_self ..) h) (ih fun a b c h1 h2 h3 h4=>k a b c (List.mem_cons_of_mem _ h1) (List.mem_cons_of_mem _ h2) (List.mem_cons_of_mem _ h3) h4)
theorem zn.take {α β γ:Type} {R:α->β->γ->Prop} {la:List α} {lb:List β} {lc:List γ} (h:zn R la lb lc):∀n,zn R (la.take n) (lb.take n) (lc.take n):=by
 induction h using zn.ind with
 | nil=>intro n;simp only[List.take_nil];exact .nil
 | cons h _ ih =>
  intro n
  cases n with
  | zero=>exact .nil
  | succ n=>exact .cons h (ih n)
theorem zn.drop {α β γ:Type} {R:α->β->γ->Prop} {la:List α} {lb:List β} {lc:List γ} (h:zn R la lb lc):∀n,zn R (la.drop n) (lb.drop n) (lc.drop n):=by
 induction h using zn.ind with
 | nil=>intro n;simp only[List.drop_nil];exact .nil
 | cons h k ih =>
  intro n
  cases n with
  | zero=>exact .cons h k
  | succ n=>exact ih n
theorem dw.cellT {P:Program} {α:Type} {E:wo P α} {w:World} {base:Nat} {v:Value} {xs:List α} (h:dw E w base v xs) {g:Nat} (hg:v.ownBlock=some g):∃cur,w.heap[g]?=some (.cells cur E.T (0,0)):=by
 obtain⟨_,h2⟩:=h
 rcases h2 with ⟨rfl,_⟩|⟨g',cap,cur,rfl,_,hh,_⟩
 ·cases hg
 ·cases hg
  exact⟨cur,hh⟩
theorem dw.low {P:Program} {α:Type} {E:wo P α} {w:World} {b1:Nat} {v:Value} {xs:List α} (h:dw E w b1 v xs) {b2:Nat} (hb:b2<=b1):dw E w b2 v xs:=by
 obtain⟨h1,h2⟩:=h
 refine⟨h1,?_⟩
 rcases h2 with h2|⟨g,cap,cur,hv,hg,r⟩
 ·exact Or.inl h2
 ·exact Or.inr ⟨g,cap,cur,hv,Nat.le_trans hb hg,r⟩
def Fr (bs:List Nat) (w w':World):Prop:=∀b,b∈bs->w'.heap[b]?=w.heap[b]?
def Dc (Ts:List Nat) (bs:List Nat) (w:World):Prop:=∀b,b∈bs->∃cur T,T∈Ts∧w.heap[b]?=some (.cells cur T (0,0))
structure Fb (T:Nat) (A B:World):Prop where
 os:B.os=A.os
 tape:B.tape=A.tape
 output:B.output=A.output
 size:A.heap.size<=B.heap.size
 other:∀(k:Nat) (o:Obj),A.heap[k]?=some o->(∀cs z,o≠.cells cs T z)->B.heap[k]?=some o
theorem Fb.trans {T:Nat} {A B C:World} (h:Fb T A B) (k:Fb T B C):Fb T A C :=
 ⟨k.os.trans h.os,k.tape.trans h.tape,k.output.trans h.output,Nat.le_trans h.size k.size,fun i o h1 h2=>k.other i o (h.other i o h1 h2) h2⟩
theorem Fb.P7 {T:Nat} {A B:World} (h:Below A.heap.size A B):Fb T A B :=
 ⟨h.os,h.tape,h.output,h.size,fun k o h1 _=>(h.block k (Array.getElem?_eq_some_iff.1 h1).1).trans h1⟩
theorem Fb.Jg {T:Nat} {A B:World} {row:Option Nat} (h:A.grownBy B row) (hr:∀b,row=some b->∃cs z,A.heap[b]?=some (.cells cs T z)):Fb T A B :=
 ⟨h.os,h.tape,h.output,h.size,fun k o h1 h2=>(h.block k (Array.getElem?_eq_some_iff.1 h1).1 (fun e=>by
  obtain⟨cs,z,h9⟩:=hr k e.symm
  rw[h1] at h9
  exact h2 cs z (Option.some.inj h9))).trans h1⟩
theorem Fb.set {T:Nat} {A:World} {b:Nat} {cs:Array Value} {z:Nat × Nat} (h:A.heap[b]?=some (.cells cs T z)) (o:Nat) (u:Value):Fb T A (A.setCell ⟨b,o,none⟩ u) :=
 Fb.Jg (row:=some b) ⟨rfl,rfl,rfl,by simp[World.setCell],fun k _ hk=>Below.heap_setCell _ _ _ _ (fun e=>hk (by simp only at e;rw[e]))⟩ (fun b' e=>by cases e;exact⟨cs,z,h⟩)
theorem Fb.fr {T:Nat} {A B:World} (h:Fb T A B) {bs Ts:List Nat} (ht:Dc Ts bs A) (hn:T∉Ts):Fr bs A B:=fun b hb=>by
 obtain⟨cur,U,hU,hh⟩:=ht b hb
 refine(h.other b _ hh (fun cs z e=>?_)).trans hh.symm
 simp only[Obj.cells.injEq] at e
 exact hn (e.2.1▸hU)
theorem Fb.blk {T:Nat} {A B:World} (h:Fb T A B) {b U:Nat} {cs:Array Value} (hb:au A b U cs) (h1:U≠T):au B b U cs :=
 h.other b _ hb (fun cs z e=>by simp only[Obj.cells.injEq] at e;exact h1 e.2.1)
theorem Dc.app {Ts bs bs':List Nat} {w:World} (h:Dc Ts bs w) (k:Dc Ts bs' w):Dc Ts (bs++bs') w:=fun b hb=>(List.mem_append.1 hb).elim (h b) (k b)
theorem Dc.wide {Ts Ts' bs:List Nat} {w:World} (h:Dc Ts bs w) (hs:∀t,t∈Ts->t∈Ts'):Dc Ts' bs w:=fun b hb=>by
 obtain⟨cur,T,hT,hh⟩:=h b hb
 exact⟨cur,T,hs T hT,hh⟩
theorem Fr.left {bs bs':List Nat} {w w':World} (h:Fr (bs++bs') w w'):Fr bs w w':=fun b hb=>h b (List.mem_append_left _ hb)
theorem Fr.right {bs bs':List Nat} {w w':World} (h:Fr (bs++bs') w w'):Fr bs' w w':=fun b hb=>h b (List.mem_append_right _ hb)
theorem Dc.below {Ts bs:List Nat} {w w':World} (h:Dc Ts bs w) (hb:Below w.heap.size w w'):Fr bs w w':=fun b jc=>by
 obtain⟨cur,T,_,hh⟩:=h b jc
 exact hb.block b (Array.getElem?_eq_some_iff.1 hh).1
theorem Dc.lt {Ts bs:List Nat} {w:World} (h:Dc Ts bs w):∀b,b∈bs->b<w.heap.size:=fun b jc=>by
 obtain⟨cur,T,_,hh⟩:=h b jc
 exact(Array.getElem?_eq_some_iff.1 hh).1
def zf {α:Type} (E:wo Tryz.prog α) (ok:α->Prop) (w:World) (v:Value) (xs:List α) (bs:List Nat):Prop:=dw E w 0 v xs∧(∀x,x∈xs->ok x)∧xs.length*E.jh<=140737488355328∧bs=gu v
theorem zf.fr {α:Type} {E:wo Tryz.prog α} {ok:α->Prop} {w w':World} {v:Value} {xs:List α} {bs:List Nat} (h:zf E ok w v xs bs) (hf:Fr bs w w'):zf E ok w' v xs bs:=by
 obtain⟨h1,h2,h3,rfl⟩:=h
 exact⟨h1.Ai (fun b hb=>hf b (iq.2 hb)),h2,h3,rfl⟩
theorem zf.typ {α:Type} {E:wo Tryz.prog α} {ok:α->Prop} {w:World} {v:Value} {xs:List α} {bs:List Nat} (h:zf E ok w v xs bs):Dc [E.T] bs w:=by
 obtain⟨h1,h2,h3,rfl⟩:=h
 intro b hb
 obtain⟨cur,hh⟩:=h1.cellT (iq.1 hb)
 exact⟨cur,E.T,List.mem_singleton.2 rfl,hh⟩
theorem zf.sl {α:Type} {E:wo Tryz.prog α} {ok:α->Prop} {R:Nat->World->List Value->α->Prop} {w:World} {v:Value} {xs:List α} {bs:List Nat} (h:zf E ok w v xs bs) (hR:∀x,ok x->R 0 w (E.f x) x):bf E.sz E.jh R 0 w v xs:=h.1.at (fun x hx=>hR x (h.2.1 x hx)) h.2.2.1
def C9 {α:Type} {sz:Nat} (E:wo Tryz.prog (Raw sz)) (R:World->List Value->α->List Nat->Prop) (w:World) (v:Value) (xs:List α) (bs:List Nat):Prop :=
 ∃(css:List (Raw sz)) (subs:List (List Nat)),dw E w 0 v css∧css.length*E.jh<=140737488355328∧zn (fun c x s=>R w c.1 x s) css xs subs∧bs=gu v++subs.flatten
def Zj {α:Type} (R:World->List Value->α->List Nat->Prop):Prop:=∀w w' cs x bs,R w cs x bs->Fr bs w w'->R w' cs x bs
def adp {α:Type} (Ts:List Nat) (R:World->List Value->α->List Nat->Prop):Prop:=∀w cs x bs,R w cs x bs->Dc Ts bs w
theorem C9.fr {α:Type} {sz:Nat} {E:wo Tryz.prog (Raw sz)} {R:World->List Value->α->List Nat->Prop} (hR:Zj R) {w w':World} {v:Value} {xs:List α} {bs:List Nat} (h:C9 E R w v xs bs) (hf:Fr bs w w'):C9 E R w' v xs bs:=by
 obtain⟨css,subs,h1,h2,h3,rfl⟩:=h
 refine⟨css,subs,h1.Ai (fun b hb=>hf b (List.mem_append_left _ (iq.2 hb))),h2,h3.mono (fun c x s _ _ hs h9=>hR _ _ _ _ _ h9 (fun b hb=>hf b (List.mem_append_right _ (List.mem_flatten.2 ⟨s,hs,hb⟩)))),rfl⟩
theorem C9.typ {α:Type} {sz:Nat} {E:wo Tryz.prog (Raw sz)} {R:World->List Value->α->List Nat->Prop} {Ts:List Nat} (hR:adp Ts R) {w:World} {v:Value} {xs:List α} {bs:List Nat} (h:C9 E R w v xs bs):Dc (E.T::Ts) bs w:=by
 obtain⟨css,subs,h1,h2,h3,rfl⟩:=h
 refine Dc.app (fun b hb=>?_) (fun b hb=>?_)
 ·obtain⟨cur,hh⟩:=h1.cellT (iq.1 hb)
  exact⟨cur,E.T,List.mem_cons_self ..,hh⟩
 ·obtain⟨s,hs,hb2⟩:=List.mem_flatten.1 hb
  obtain⟨i,hi,rfl⟩:=List.mem_iff_getElem.1 hs
  have hl:=h3.len
  obtain⟨cur,T,hT,hh⟩:=hR _ _ _ _ (h3.get i (by omega) (by omega) hi) b hb2
  exact⟨cur,T,List.mem_cons_of_mem _ hT,hh⟩
def Qs {sz:Nat} (_:Nat) (_:World) (cs:List Value) (c:Raw sz):Prop:=cs=c.1
theorem bf.ofRaw {α:Type} {sz jh lo:Nat} {R:Nat->World->List Value->α->Prop} {w:World} {v:Value} {css:List (Raw sz)} {xs:List α} (h:bf sz jh Qs lo w v css) (hl:css.length=xs.length) (hR:∀i (h1:i<css.length) (h2:i<xs.length),R lo w css[i].1 xs[i]):bf sz jh R lo w v xs:=by
 obtain⟨a,cap,rfl,h1,h2,h3⟩:=h
 rw[hl] at h1 h2
 refine⟨a,cap,by rw[hl],h1,h2,fun i hi=>?_⟩
 obtain⟨b,o,cs,e1,e2,e3,e4,e5,e6⟩:=h3 i (by omega)
 have e7:cs=css[i].1:=e6
 exact⟨b,o,cs,e1,e2,e3,e4,e5,by rw[e7];exact hR i (by omega) hi⟩
theorem C9.sl {α:Type} {sz:Nat} {E:wo Tryz.prog (Raw sz)} {R:World->List Value->α->List Nat->Prop} {S:Nat->World->List Value->α->Prop} (hE:E.sz=sz) (hf:∀c,E.f c=c.1) {w:World} (hS:∀cs x bs,R w cs x bs->S 0 w cs x) {v:Value} {xs:List α} {bs:List Nat} (h:C9 E R w v xs bs):bf sz E.jh S 0 w v xs:=by
 obtain⟨css,subs,h1,h2,h3,rfl⟩:=h
 have h9:bf E.sz E.jh Qs 0 w v css:=h1.at (fun c _=>hf c) h2
 rw[hE] at h9
 have hl:=h3.len
 exact h9.ofRaw hl.1 (fun i g1 g2=>hS _ _ _ (h3.get i g1 g2 (by omega)))
def okS (s:ByteArray):Prop:=Len s.size
def okI (t:iw):Prop:=Len t.name.size∧I64 t.op∧I64 t.val
def O4 (t:gy):Prop:=Len t.name.size∧I64 t.type
def Dw (w:World) (cs:List Value) (l:List iw) (bs:List Nat):Prop:=∃v,cs=[v]∧zf Dv okI w v l bs
def Aa (w:World) (cs:List Value) (t:dh) (bs:List Nat):Prop:=∃o c a b1 b2 b3,cs=[.int .i64 t.kind,.string t.name,.int .i64 t.at_,o,c,a]∧Len t.name.size∧I64 t.kind∧I64 t.at_∧zf Gw okS w o t.outs b1∧zf Dv okI w c t.code b2∧C9 Fg Dw w a t.args b3∧bs=b1++b2++b3
def oh (w:World) (cs:List Value) (k:ak) (bs:List Nat):Prop:=∃v1 v2 v3 v4 v5 v6 b1 b2 b3 b4 b5 b6,cs=[.string k.name,v1,v2,v3,v4,v5,v6]∧Len k.name.size∧zf yh O4 w v1 k.ins b1∧zf yh O4 w v2 k.outs b2∧zf Gw okS w v3 k.ay b3∧zf Hw I64 w v4 k.aj b4∧zf Hw I64 w v5 k.insts b5∧C9 zh Aa w v6 k.body b6∧bs=b1++b2++b3++b4++b5++b6
theorem Pm:Zj Dw:=fun _ _ _ _ _ ⟨v,h1,h2⟩ hf=>⟨v,h1,h2.fr hf⟩
theorem I4:Zj Aa:=fun _ _ _ _ _ ⟨o,c,a,b1,b2,b3,h1,h2,h3,h4,h5,h6,h7,h8⟩ hf=>by
 subst h8
 exact⟨o,c,a,b1,b2,b3,h1,h2,h3,h4,h5.fr hf.left.left,h6.fr hf.left.right,h7.fr Pm hf.right,rfl⟩
theorem zx:Zj oh:=fun _ _ _ _ _ ⟨v1,v2,v3,v4,v5,v6,b1,b2,b3,b4,b5,b6,h0,hn,h1,h2,h3,h4,h5,h6,h8⟩ hf=>by
 subst h8
 exact⟨v1,v2,v3,v4,v5,v6,b1,b2,b3,b4,b5,b6,h0,hn,h1.fr hf.left.left.left.left.left,h2.fr hf.left.left.left.left.right,h3.fr hf.left.left.left.right,h4.fr hf.left.left.right,h5.fr hf.left.right,h6.fr I4 hf.right,rfl⟩
def an1:List Nat:=[9,141,57]
def Tq:List Nat:=[79,9,3,60,141,57]
theorem X3:adp [141] Dw:=fun _ _ _ _ ⟨v,_,h2⟩=>h2.typ
theorem Rz:adp an1 Aa:=fun _ _ _ _ ⟨o,c,a,b1,b2,b3,h1,h2,h3,h4,h5,h6,h7,h8⟩=>by
 subst h8
 exact((h5.typ.wide (fun t ht=>by rw[List.mem_singleton] at ht;rw[ht];decide)).app (h6.typ.wide (fun t ht=>by rw[List.mem_singleton] at ht;rw[ht];decide))).app ((h7.typ X3).wide (fun t ht=>by
  rcases List.mem_cons.1 ht with rfl|h9
  ·decide
  ·rw[List.mem_singleton] at h9;rw[h9];decide))
theorem zy:adp Tq oh:=fun _ _ _ _ ⟨v1,v2,v3,v4,v5,v6,b1,b2,b3,b4,b5,b6,h0,hn,h1,h2,h3,h4,h5,h6,h8⟩=>by
 subst h8
 have one:∀{T:Nat} {bs:List Nat} {w:World},Dc [T] bs w->T∈Tq->Dc Tq bs w:=fun h hT=>h.wide (fun t ht=>by rw[List.mem_singleton] at ht;rw[ht];exact hT)
 refine(((((one h1.typ (by decide)).app (one h2.typ (by decide))).app (one h3.typ (by decide))).app (one h4.typ (by decide))).app (one h5.typ (by decide))).app ((h6.typ Rz).wide (fun t ht=>?_))
 rcases List.mem_cons.1 ht with rfl|h9
 ·decide
 ·unfold an1 at h9
  unfold Tq
  simp only[List.mem_cons,List.not_mem_nil,or_false] at h9 ⊢
  omega
theorem arx {w:World} {cs:List Value} {l:List iw} {bs:List Nat} (h:Dw w cs l bs):vw 0 w cs l:=by
 obtain⟨v,h1,h2⟩:=h
 exact⟨v,h1,h2.sl (fun x hx=>⟨rfl,hx.1,hx.2.1,hx.2.2⟩)⟩
theorem alv {w:World} {cs:List Value} {t:dh} {bs:List Nat} (h:Aa w cs t bs):Ec 0 w cs t:=by
 obtain⟨o,c,a,b1,b2,b3,h1,h2,h3,h4,h5,h6,h7,h8⟩:=h
 exact⟨o,c,a,h1,h2,h3,h4,h5.sl (fun x hx=>⟨rfl,hx⟩),h6.sl (fun x hx=>⟨rfl,hx.1,hx.2.1,hx.2.2⟩),h7.sl rfl (fun _=>rfl) (fun cs x bs h=>arx h)⟩
theorem X5 {w:World} {cs:List Value} {k:ak} {bs:List Nat} (h:oh w cs k bs):ni 0 w cs k:=by
 obtain⟨v1,v2,v3,v4,v5,v6,b1,b2,b3,b4,b5,b6,h0,hn,h1,h2,h3,h4,h5,h6,h8⟩:=h
 exact⟨v1,v2,v3,v4,v5,v6,h0,hn,h1.sl (fun x hx=>⟨rfl,hx.1,hx.2⟩),h2.sl (fun x hx=>⟨rfl,hx.1,hx.2⟩),h3.sl (fun x hx=>⟨rfl,hx⟩),h4.sl (fun x hx=>⟨rfl,hx⟩),h5.sl (fun x hx=>⟨rfl,hx⟩),h6.sl rfl (fun _=>rfl) (fun cs x bs h=>alv h)⟩
theorem dw.O8 {P:Program} {α:Type} {E:wo P α} {w:World} {base:Nat} {v:Value} {xs:List α} (h:dw E w base v xs):(∃a cap,v=.slice a 0 cap∧xs=[])∨∃g cap,v=.slice (some ⟨g,0,none⟩) xs.length cap∧∀i (hi:i<xs.length) j (hj:j<(E.f xs[i]).length),w.cell? ⟨g,i*E.sz+j,none⟩=some (E.f xs[i])[j]∧w.frozen? ⟨g,i*E.sz+j,none⟩=false:=by
 have h':=h
 rcases h.shape with ⟨rfl,rfl⟩|⟨g,cap,rfl,hb,hlt,hcap⟩
 ·exact Or.inl ⟨_,_,rfl,rfl⟩
 ·refine Or.inr ⟨g,cap,rfl,fun i hi j hj=>⟨?_,?_⟩⟩
  ·have hjs:j<E.sz:=by rw[←E.hf xs[i]];exact hj
   have:=World.ownsRow.cells h' (g:=g) rfl (i*E.sz+j) (E.f xs[i])[j] (by rw[flat_get E.f E.sz E.hf xs i hi j hjs];simp[hj])
   rw[Addr.add_lit] at this
   simpa using this
  ·obtain⟨cur,hh⟩:=h'.cellT (g:=g) rfl
   simp[World.frozen?,hh]
theorem bf.jh {α:Type} {sz jh lo:Nat} {R:Nat->World->List Value->α->Prop} {w:World} {v:Value} {xs:List α} (h:bf sz jh R lo w v xs):xs.length*jh<=140737488355328:=by
 obtain⟨a,cap,_,⟨h1,_⟩,_⟩:=h
 exact h1
theorem Ol {w:World} {g:Nat} {e:TypeId} {cs:Array Value} (h:au w g e cs) (o:Obj):au (w.alloc o) g e cs:=h.below ((Below.refl _ _).alloc (Nat.le_refl _) _) h.lt
theorem Bq {w:World} {g:Nat} {e:TypeId} {cs:Array Value} (h:g=w.heap.size):au (w.alloc (.cells cs e)) g e cs:=by subst h;exact jl w _ _
theorem au.Tn {w:World} {fb T:Nat} {cs:Array Value} (h:au w fb T cs) {bs Ts:List Nat} (ht:Dc Ts bs w) (hn:T∉Ts):fb∉bs:=fun hm=>by
 obtain⟨cur,U,hU,hh⟩:=ht fb hm
 unfold au at h
 rw[hh] at h
 simp only[Option.some.injEq,Obj.cells.injEq] at h
 exact hn (h.2.1▸hU)
theorem Zw {w:World} {B:Nat} {v:Value} {cs:List (Raw 7)} (h:dw uj w B v cs) (i:Nat) (hi:i<cs.length):∃g cap,v=.slice (some ⟨g,0,none⟩) cs.length cap∧(∀k u,cs[i].1[k]?=some u->w.cell? ⟨g,i*7+k,none⟩=some u):=by
 rcases h.O8 with ⟨_,_,hh1,hh2⟩|⟨g',cap',hh1,hh2⟩
 ·rw[hh2] at hi;exact absurd hi (Nat.not_lt_zero _)
 ·refine⟨g',cap',hh1,fun k u hu=>?_⟩
  obtain⟨hk,hku⟩:=List.getElem?_eq_some_iff.1 hu
  have h9:=(hh2 i hi k hk).1
  have e9:(uj.f cs[i])=cs[i].1:=rfl
  simp only[e9] at h9
  rw[hku] at h9
  exact h9
theorem Zv {P:Program} {α:Type} {E:wo P α} {w w':World} {base:Nat} {v:Value} {xs:List α} (ho:dw E w base v xs) (hg:w.grownBy w' v.ownBlock) {bs Ts:List Nat} (ht:Dc Ts bs w) (hn:E.T∉Ts):Fr bs w w':=fun b hb=>hg.block b (ht.lt b hb) (fun e=>by
 obtain⟨cur,hh⟩:=ho.cellT e.symm
 exact au.Tn (show au w b E.T cur from hh) ht hn hb)
def a2r:Go.Shelf.Ren:=⟨fun|25=>114|n=>n,fun|0=>0|3=>3|4=>4|5=>5|9=>9|37=>105|47=>182|n=>n,fun|n=>n⟩
theorem a1r:LaysPu.n25 Tryz.prog a2r:={
 mixed:=by kernel_rfl
 f25:=Tryz.func114.trans (congrArg some (by kernel_rfl))
 t0:=Tryz.underlying0
 a0:=Tryz.isAgg0
 z0:=Tryz.sizeOf0
 v0:=Tryz.zeroValue0
 i0:=by kernel_rfl
 t3:=Tryz.underlying3
 a3:=Tryz.isAgg3
 z3:=Tryz.sizeOf3
 v3:=Tryz.zeroValue3
 i3:=by kernel_rfl
 t4:=Tryz.underlying4
 a4:=Tryz.isAgg4
 z4:=Tryz.sizeOf4
 v4:=Tryz.zeroValue4
 i4:=by kernel_rfl
 t5:=Tryz.underlying5
 a5:=Tryz.isAgg5
 z5:=Tryz.sizeOf5
 v5:=Tryz.zeroValue5
 i5:=by kernel_rfl
 t9:=Tryz.underlying9
 a9:=Tryz.isAgg9
 z9:=Tryz.sizeOf9
 v9:=Tryz.zeroValue9
 i9:=by kernel_rfl
 t37:=Tryz.underlying105
 a37:=Tryz.isAgg105
 z37:=Tryz.sizeOf105
 v37:=Tryz.zeroValue105
 i37:=by kernel_rfl
 t47:=Tryz.underlying182
 a47:=Tryz.isAgg182
 z47:=Tryz.sizeOf182
 v47:=Tryz.zeroValue182
 i47:=by kernel_rfl }
theorem apa (s:ByteArray) (w:World) (h:Len s.size):Calls Tryz.prog 114 #[.string s] w (Ans (.string s) w):=by
 have h9:=AnyPu.stringslite_Clone a1r s w (by unfold Len at h;omega)
 exact h9
theorem V3 (s:ByteArray) (w:World) (h:Len s.size):Calls Tryz.prog 83 #[.string s] w (Ans (.string s) w):=by
 have HC:=hide (apa s w h)
 clear h
 go_enter Tryz.func83,Tryz.ntmps83
 go_wp2_with fail
 refine(uh HC).mono ?_
 rintro e w1 ⟨rfl,hb⟩
 have HB:=hide hb
 clear hb
 go_wp2
 go_ret
 exact⟨rfl,uh HB⟩
def ac9 {α:Type} (E:wo Tryz.prog α) (ok:α->Prop) (xs:List α) (w:World) (e:Ending) (w':World):Prop:=∃v,e=.returned v∧dw E w' w.heap.size v xs∧(∀x,x∈xs->ok x)∧Below w.heap.size w w'
set_option maxHeartbeats 1000000 in
theorem ald (t:iw) (w:World) (hs:Len t.name.size):Calls Tryz.prog 133 #[.agg #[.int .i64 t.op,.int .i64 t.val,.string t.name]] w (Ans (.agg #[.int .i64 t.op,.int .i64 t.val,.string t.name]) w):=by
 obtain⟨op,val,name⟩:=t
 simp only at hs ⊢
 obtain⟨wA,hwA⟩:∃z,z=(w.alloc (.cells #[.int .i64 op,.int .i64 val,.string name] 141)).alloc (.cells #[.int .i64 0,.int .i64 0,.string ⟨#[]⟩] 141):=⟨_,rfl⟩
 have hA:Below w.heap.size w wA:=by rw[hwA];exact((Below.refl _ w).alloc (Nat.le_refl _) _).alloc (by simp) _
 have hb1:au wA w.heap.size 141 #[.int .i64 op,.int .i64 val,.string name]:=by
  rw[hwA]
  have h9:=jl w #[.int .i64 op,.int .i64 val,.string name] 141
  exact h9.below ((Below.refl _ _).alloc (Nat.le_refl _) _) h9.lt
 have hb2:au wA (w.heap.size+1) 141 #[.int .i64 0,.int .i64 0,.string ⟨#[]⟩]:=by
  rw[hwA]
  have h9:=jl (w.alloc (.cells #[.int .i64 op,.int .i64 val,.string name] 141)) #[.int .i64 0,.int .i64 0,.string ⟨#[]⟩] 141
  rw[World.size_alloc] at h9
  exact h9
 have c0:=hb1.cell (i:=0) (v:=.int .i64 op) rfl
 have c1:=hb1.cell (i:=1) (v:=.int .i64 val) rfl
 have c2:=hb1.cell (i:=2) (v:=.string name) rfl
 have HC:Hid (Calls Tryz.prog 83 #[.string name] wA.drew fun e w'=>e=.returned (.string name)∧Hid (Below w.heap.size w w'∧au w' (w.heap.size+1) 141 #[.int .i64 0,.int .i64 0,.string ⟨#[]⟩])∧w'.cell? ⟨w.heap.size,0,none⟩=some (.int .i64 op)∧w'.cell? ⟨w.heap.size,1,none⟩=some (.int .i64 val)∧w'.cell? ⟨w.heap.size,2,none⟩=some (.string name)):=by
  refine hide ((V3 name wA.drew hs).mono ?_)
  rintro e w' ⟨rfl,hb⟩
  have jc:Below wA.heap.size wA w':=(Below.refl _ _).drew.trans hb
  have k1:=hb1.below jc hb1.lt
  exact⟨rfl,⟨hA.trans (jc.mono hA.size),hb2.below jc hb2.lt⟩,k1.cell (i:=0) rfl,k1.cell (i:=1) rfl,k1.cell (i:=2) rfl⟩
 clear hs hA hb1 hb2
 go_enter Tryz.func133,Tryz.ntmps133
 go_wp2
 rw[←hwA]
 clear hwA
 go_region_held3 (fun w'=>w'.cell? ⟨w.heap.size,0,none⟩=some (.int .i64 op)∧w'.cell? ⟨w.heap.size,1,none⟩=some (.int .i64 val)∧w'.cell? ⟨w.heap.size,2,none⟩=some (.string name)) (go_keep) (first|(go_at_call 83;refine(uh HC).mono ?_;rintro e w1 ⟨rfl,HB,d0,d1,d2⟩;have r0:=(uh HB).2.cell (i:=0) (v:=.int .i64 0) rfl;have r1:=(uh HB).2.cell (i:=1) (v:=.int .i64 0) rfl;have r2:=(uh HB).2.cell (i:=2) (v:=.string ⟨#[]⟩) rfl;have z0:=(uh HB).2.free 0;have z1:=(uh HB).2.free 1;have z2:=(uh HB).2.free 2))
 have HF:Hid (Below w.heap.size w (((w1.setCell ⟨w.heap.size+1,0,none⟩ (.int .i64 op)).setCell ⟨w.heap.size+1,1,none⟩ (.int .i64 val)).setCell ⟨w.heap.size+1,2,none⟩ (.string name))):=hide ((((uh HB).1.setCell (by simp) _).setCell (by simp) _).setCell (by simp) _)
 have e2:=(((uh HB).2.set 0 (.int .i64 op)).set 1 (.int .i64 val)).set 2 (.string name)
 have E2:=hide e2
 clear e2 d0 d1 d2 r0 r1 r2 z0 z1 z2 c0 c1 c2
 go_wp2
 have f0:=(uh E2).cell (i:=0) (v:=.int .i64 op) rfl
 have f1:=(uh E2).cell (i:=1) (v:=.int .i64 val) rfl
 have f2:=(uh E2).cell (i:=2) (v:=.string name) rfl
 exact bodyPost_ret (v:=.agg #[.int .i64 op,.int .i64 val,.string name]) (by simp[results,Tryz.results133,go_sem,f0,f1,f2]) rfl ⟨rfl,uh HF⟩
theorem apb (x:iw) (w:World) (h:okI x):Calls Tryz.prog 133 #[.agg #[.int .i64 x.op,.int .i64 x.val,.string x.name]] w (Ans (.agg #[.int .i64 x.op,.int .i64 x.val,.string x.name]) w):=ald x w h.1
set_option maxHeartbeats 2000000 in
theorem ame (xs:List iw) (v:Value) (w:World) (h:bf 3 32 tu 0 w v xs):Calls Tryz.prog 132 #[v,.func (.func 133) #[] #[]] w (ac9 Dv okI xs w):=by
 obtain⟨a,cap,rfl,⟨hbt,_⟩,hn,hx⟩:=h
 unfold Len at hn hbt
 have HX:=hide hx
 have vg:=hide hbt
 clear hx hbt
 go_enter Tryz.func132,Tryz.ntmps132
 go_wp2
 go_loopg [5,10] xs.length (fun g mv i wr=>∃q:Nat,q<=xs.length∧g=xs.length-q∧i=.int .i64 q∧Hid (dw Dv wr w.heap.size mv (xs.take q))∧Hid (∀x,x∈xs.take q->okI x)∧Hid (Below w.heap.size w wr))
 case atStart=>exact⟨0,Nat.zero_le _,by omega,rfl,dw.nil _ _,(fun x hx=>by cases hx),Below.refl _ _⟩
 case round =>
  obtain⟨q,hq,hg,rfl,HO,Hq,HB⟩:=hrel
  have HG:=hide hg
  clear hg
  by_cases hlt:q<xs.length
  ·obtain⟨b,o,cs,rfl,_,hb,hcs,hc,hR⟩:=uh HX q hlt
   have htk:=List.take_succ_eq_append_getElem hlt
   generalize xs[q]=x at hR htk
   have Tz:=hide htk
   clear htk
   obtain⟨rfl,hk1,hk2,hk3⟩:=hR
   have c0:=((uh HB).cell (p:=⟨b,_,none⟩) hb).trans (hc 0 (by simp))
   have c1:=((uh HB).cell (p:=⟨b,_,none⟩) hb).trans (hc 1 (by simp))
   have c2:=((uh HB).cell (p:=⟨b,_,none⟩) hb).trans (hc 2 (by simp))
   clear hc
   have Du:Hid (((xs.take q).length+1)*32<=140737488355328):=by
    have h9:=uh vg
    refine hide ?_
    rw[List.length_take]
    have:min q xs.length+1<=xs.length:=by omega
    exact Nat.le_trans (Nat.mul_le_mul_right _ this) h9
   simp only[Nat.mul_one,Nat.add_zero,List.getElem_cons_zero,List.getElem_cons_succ] at c0 c1 c2
   have Yj:Hid (okI x):=hide ⟨hk1,hk2,hk3⟩
   have hA:Below wr.heap.size wr (wr.alloc (.cells #[.int .i64 x.op,.int .i64 x.val,.string x.name] 141)):=(Below.refl _ _).alloc (Nat.le_refl _) _
   have Yk:=hide (apb x (wr.alloc (.cells #[.int .i64 x.op,.int .i64 x.val,.string x.name] 141)) (uh Yj))
   have HA:=hide hA
   clear hA hcs
   go_wp2_with fail
   refine(uh Yk).mono ?_
   rintro e w1 ⟨rfl,hb1⟩
   have h1:Below wr.heap.size wr w1:=(uh HA).trans (hb1.mono (uh HA).size)
   have h2:Below w.heap.size w w1:=(uh HB).trans (h1.mono (uh HB).size)
   have hA2:Below w1.heap.size w1 (w1.alloc (.cells #[.int .i64 x.op,.int .i64 x.val,.string x.name] 141)):=(Below.refl _ _).alloc (Nat.le_refl _) _
   have Ee:=hide (((uh HO).below h1).below hA2)
   have h3:Below w.heap.size w (w1.alloc (.cells #[.int .i64 x.op,.int .i64 x.val,.string x.name] 141)):=h2.trans (hA2.mono h2.size)
   have H3:=hide h3
   have Ef:=hide h3.size
   clear hb1 h1 h2 hA2 h3 c0 c1 c2
   go_wp2_with (at_builtin;go_must (refine l9 Dv _ rfl _ _ rfl w.heap.size _ (xs.take q) rfl (uh Ee) w1.heap.size x rfl (fun j u hu=>by rw[World.cell?_alloc_at _ _ _ _ rfl];simpa[Dv] using hu) (uh Du) (uh Ef) ?_))
   intro v' w5 Bh hg5 Eh
   have Nw:Hid (dw Dv w5 w.heap.size v' (xs.take (q+1))):=by rw[uh Tz];exact hide Bh
   have Xn:Hid (∀x,x∈xs.take (q+1)->okI x):=by
    rw[uh Tz]
    refine hide (fun y hy=>?_)
    rcases List.mem_append.1 hy with h9|h9
    ·exact uh Hq y h9
    ·rw[List.mem_singleton] at h9;rw[h9];exact uh Yj
   have zo:Hid (Below w.heap.size w w5):=hide ((uh Ee).grown (uh H3) hg5 (uh Ef) (Nat.le_refl _))
   clear Bh hg5 Eh
   go_wp2
   go_roundg (xs.length-(q+1))
   case measure=>have:=uh HG;omega
   case rel=>exact⟨q+1,by omega,rfl,by go_num,Nw,Xn,zo⟩
  ·have e:q=xs.length:=by omega
   rw[e,List.take_length] at HO Hq
   clear e
   obtain⟨oa,oc,hov⟩:=(uh HO).slice
   go_wp2
   go_ret
   exact⟨_,rfl,uh HO,uh Hq,uh HB⟩
end Go.Proofs.YtlcgnbcgmljpaaaGreat
