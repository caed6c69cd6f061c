import Derived.Test.YtfeejeflmcapoaaGreatDoorMI17
import Derived.Test.YtfeejeflmcapoaaGreatDoorImplFresh
import Derived.Shelf.Pu.Clone
import Derived.Test.YtfeejeflmcapoaaGreatDoorData
import Derived.Test.YtfeejeflmcapoaaGreatDoorProg
import Derived.WalkLawsBesides
import Derived.Deep.LoopGhost
import Derived.Laws.BytesString
set_option linter.unusedSimpArgs false
set_option linter.unusedVariables false
set_option maxHeartbeats 1000000
namespace Go.Proofs.YtfeejeflmcapoaaGreatDoor
open Go.RowKit
abbrev Raw (sz:Nat):={ cs:List Value // cs.length=sz∧∀u,u∈cs->u.oneCell'=true }
def au1 (T ST sz qy:Nat) (z:Value) (hT:Tryz.prog.underlying ST=some (.slice T)) (hi:(Tryz.prog.info? T).map (fun i=>(i.zero,i.size,i.bytes))=some (some z,sz,qy)) (hz:z.cells.size=sz) (hsz:0<sz) (hby:0<qy):F6 Tryz.prog (Raw sz) where
 T:=T
 ST:=ST
 sz:=sz
 qy:=qy
 f:=fun c=>c.1
 z:=z
 hT:=hT
 hi:=hi
 hz:=hz
 hf:=fun c=>c.2.1
 h1:=fun c=>c.2.2
 hsz:=hsz
 hby:=hby
def an8:F6 Tryz.prog (Raw 1):=au1 56 58 1 24 (.slice none 0 0) Tryz.underlying58 (by kernel_rfl) rfl (by decide) (by decide)
def abu:F6 Tryz.prog (Raw 6):=au1 60 48 6 104 (.agg #[.int .i64 0,.string ByteArray.empty,.int .i64 0,.slice none 0 0,.slice none 0 0,.slice none 0 0]) Tryz.underlying48 (by kernel_rfl) rfl (by decide) (by decide)
def Fa:F6 Tryz.prog (Raw 7):=au1 50 22 7 160 (.agg #[.string ByteArray.empty,.slice none 0 0,.slice none 0 0,.slice none 0 0,.slice none 0 0,.slice none 0 0,.slice none 0 0]) Tryz.underlying22 (by kernel_rfl) rfl (by decide) (by decide)
def zx (v:Value):List Nat:=v.ownBlock.toList
theorem Ce {v:Value} {b:Nat}:b∈zx v↔v.ownBlock=some b:=by
 unfold zx;rw[Option.mem_toList]
inductive Na {α β γ:Type} (R:α->β->γ->Prop):List α->List β->List γ->Prop
 | nil:Na R [] [] []
 | cons {a b c la lb lc}:R a b c->Na R la lb lc->Na R (a::la) (b::lb) (c::lc)
theorem Na.len {α β γ:Type} {R:α->β->γ->Prop} {la:List α} {lb:List β} {lc:List γ} (h:Na R la lb lc):la.length=lb.length∧lc.length=lb.length:=by
 induction h with
 | nil=>exact⟨rfl,rfl⟩
 | cons _ _ ih=>exact⟨by simp[ih.1],by simp[ih.2]⟩
theorem Na.app {α β γ:Type} {R:α->β->γ->Prop} {la la':List α} {lb lb':List β} {lc lc':List γ} (h:Na R la lb lc) (k:Na R la' lb' lc'):Na R (la++la') (lb++lb') (lc++lc'):=by
 induction h with
 | nil=>exact k
 | cons h _ ih=>exact .cons h ih
theorem Na.get {α β γ:Type} {R:α->β->γ->Prop} {la:List α} {lb:List β} {lc:List γ} (h:Na R la lb lc):∀i (h1:i<la.length) (h2:i<lb.length) (h3:i<lc.length),R la[i] lb[i] lc[i]:=by
 induction h with
 | nil=>intro i h1;exact absurd h1 (yt _)
 | cons h _ ih =>
  intro i h1 h2 h3
  cases i with
  | zero=>exact h
  | succ i=>exact ih i (by simpa using h1) (by simpa using h2) (by simpa using h3)
theorem Na.mono {α β γ:Type} {R S:α->β->γ->Prop} {la:List α} {lb:List β} {lc:List γ} (h:Na R la lb lc) (k:∀a b c,a∈la->b∈lb->c∈lc->R a b c->S a b c):Na S la lb lc:=by
 induction h with
 | nil=>exact .nil
 | cons h _ ih=>exact .cons (k _ _ _ (H7 ..) (H7 ..) (H7 ..) h) (ih fun a b c h1 h2 h3 h4=>k a b c (G8 _ h1) (G8 _ h2) (G8 _ h3) h4)
theorem Na.take {α β γ:Type} {R:α->β->γ->Prop} {la:List α} {lb:List β} {lc:List γ} (h:Na R la lb lc):∀n,Na R (la.take n) (lb.take n) (lc.take n):=by
 induction h with
 | nil=>intro n;simp only[List.take_nil];exact .nil
 | cons h _ ih =>
  intro n
  cases n with
  | zero=>exact .nil
  | succ n=>exact .cons h (ih n)
theorem Na.drop {α β γ:Type} {R:α->β->γ->Prop} {la:List α} {lb:List β} {lc:List γ} (h:Na R la lb lc):∀n,Na R (la.drop n) (lb.drop n) (lc.drop n):=by
 induction h with
 | nil=>intro n;simp only[List.drop_nil];exact .nil
 | cons h k ih =>
  intro n
  cases n with
  | zero=>exact .cons h k
  | succ n=>exact ih n
theorem jm.cellT {P:Program} {α:Type} {E:F6 P α} {w:bf} {base:Nat} {v:Value} {xs:List α} (h:jm E w base v xs) {g:Nat} (hg:v.ownBlock=some g):∃cur,w.heap[g]?=some (.cells cur E.T (0,0)):=by
 obtain⟨_,h2⟩:=h;rcases h2 with ⟨rfl,_⟩|⟨g',cap,cur,rfl,_,hh,_⟩
 ·cases hg
 ·cases hg
  exact⟨cur,hh⟩
theorem jm.low {P:Program} {α:Type} {E:F6 P α} {w:bf} {b1:Nat} {v:Value} {xs:List α} (h:jm E w b1 v xs) {b2:Nat} (hb:b2<=b1):jm E w b2 v xs:=by
 obtain⟨h1,h2⟩:=h;refine⟨h1,?_⟩;rcases h2 with h2|⟨g,cap,cur,hv,hg,r⟩
 ·exact Or.inl h2
 ·exact Or.inr ⟨g,cap,cur,hv,jq hb hg,r⟩
def Fr (bs:List Nat) (w w':bf):Prop:=∀b,b∈bs->w'.heap[b]?=w.heap[b]?
def V8 (Ts:List Nat) (bs:List Nat) (w:bf):Prop:=∀b,b∈bs->∃cur T,T∈Ts∧w.heap[b]?=some (.cells cur T (0,0))
structure Zt (T:Nat) (A B:bf):Prop where
 os:B.os=A.os
 tape:B.tape=A.tape
 output:B.output=A.output
 size:A.heap.size<=B.heap.size
 other:∀(k:Nat) (o:Obj),A.heap[k]?=some o->(∀cs z,o≠.cells cs T z)->B.heap[k]?=some o
theorem Zt.refl (T:Nat) (A:bf):Zt T A A:=⟨rfl,rfl,rfl,gq _,fun _ _ h _=>h⟩
theorem Zt.trans {T:Nat} {A B C:bf} (h:Zt T A B) (k:Zt T B C):Zt T A C :=
 ⟨k.os.trans h.os,k.tape.trans h.tape,k.output.trans h.output,jq h.size k.size,fun i o h1 h2=>k.other i o (h.other i o h1 h2) h2⟩
theorem Zt.Ws {T:Nat} {A B:bf} (h:Below A.heap.size A B):Zt T A B :=
 ⟨h.os,h.tape,h.output,h.size,fun k o h1 _=>(h.block k (Jk.1 h1).1).trans h1⟩
theorem Zt.arf {T:Nat} {A B:bf} {row:Option Nat} (h:A.grownBy B row) (hr:∀b,row=some b->∃cs z,A.heap[b]?=some (.cells cs T z)):Zt T A B :=
 ⟨h.os,h.tape,h.output,h.size,fun k o h1 h2=>(h.block k (Jk.1 h1).1 (fun e=>by
  obtain⟨cs,z,h9⟩:=hr k e.symm;rw[h1] at h9;exact h2 cs z (G9 h9))).trans h1⟩
theorem Zt.set {T:Nat} {A:bf} {b:Nat} {cs:Array Value} {z:Nat × Nat} (h:A.heap[b]?=some (.cells cs T z)) (o:Nat) (u:Value):Zt T A (A.setCell ⟨b,o,none⟩ u) :=
 Zt.arf (row:=some b) ⟨rfl,rfl,rfl,by simp[World.setCell],fun k _ hk=>yx _ _ _ _ (fun e=>hk (by simp only at e;rw[e]))⟩ (fun b' e=>by cases e;exact⟨cs,z,h⟩)
theorem Zt.blk {T:Nat} {A B:bf} (h:Zt T A B) {b U:Nat} {cs:Array Value} (hb:jc A b U cs) (h1:U≠T):jc B b U cs :=
 h.other b _ hb (fun cs z e=>by simp only[Obj.cells.injEq] at e;exact h1 e.2.1)
theorem V8.app {Ts bs bs':List Nat} {w:bf} (h:V8 Ts bs w) (k:V8 Ts bs' w):V8 Ts (bs++bs') w:=fun b hb=>(Ec.1 hb).elim (h b) (k b)
theorem V8.wide {Ts Ts' bs:List Nat} {w:bf} (h:V8 Ts bs w) (hs:∀t,t∈Ts->t∈Ts'):V8 Ts' bs w:=fun b hb=>by
 obtain⟨cur,T,hT,hh⟩:=h b hb;exact⟨cur,T,hs T hT,hh⟩
theorem Fr.left {bs bs':List Nat} {w w':bf} (h:Fr (bs++bs') w w'):Fr bs w w':=fun b hb=>h b (List.mem_append_left _ hb)
theorem Fr.right {bs bs':List Nat} {w w':bf} (h:Fr (bs++bs') w w'):Fr bs' w w':=fun b hb=>h b (List.mem_append_right _ hb)
theorem V8.below {Ts bs:List Nat} {w w':bf} (h:V8 Ts bs w) (hb:Below w.heap.size w w'):Fr bs w w':=fun b yu=>by
 obtain⟨cur,T,_,hh⟩:=h b yu;exact hb.block b (Jk.1 hh).1
theorem V8.lt {Ts bs:List Nat} {w:bf} (h:V8 Ts bs w):∀b,b∈bs->b<w.heap.size:=fun b yu=>by
 obtain⟨cur,T,_,hh⟩:=h b yu;exact(Jk.1 hh).1
def Ub {α:Type} (E:F6 Tryz.prog α) (ok:α->Prop) (w:bf) (v:Value) (xs:List α) (bs:List Nat):Prop:=jm E w 0 v xs∧(∀x,x∈xs->ok x)∧xs.length*E.qy<=140737488355328∧bs=zx v
theorem Ub.fr {α:Type} {E:F6 Tryz.prog α} {ok:α->Prop} {w w':bf} {v:Value} {xs:List α} {bs:List Nat} (h:Ub E ok w v xs bs) (hf:Fr bs w w'):Ub E ok w' v xs bs:=by
 obtain⟨h1,h2,h3,rfl⟩:=h;exact⟨h1.Ii (fun b hb=>hf b (Ce.2 hb)),h2,h3,rfl⟩
theorem Ub.typ {α:Type} {E:F6 Tryz.prog α} {ok:α->Prop} {w:bf} {v:Value} {xs:List α} {bs:List Nat} (h:Ub E ok w v xs bs):V8 [E.T] bs w:=by
 obtain⟨h1,h2,h3,rfl⟩:=h;intro b hb;obtain⟨cur,hh⟩:=h1.cellT (Ce.1 hb);exact⟨cur,E.T,yj.2 rfl,hh⟩
theorem Ub.sl {α:Type} {E:F6 Tryz.prog α} {ok:α->Prop} {R:Nat->bf->List Value->α->Prop} {w:bf} {v:Value} {xs:List α} {bs:List Nat} (h:Ub E ok w v xs bs) (hR:∀x,ok x->R 0 w (E.f x) x):iy E.sz E.qy R 0 w v xs:=h.1.at (fun x hx=>hR x (h.2.1 x hx)) h.2.2.1
def aah {α:Type} {sz:Nat} (E:F6 Tryz.prog (Raw sz)) (R:bf->List Value->α->List Nat->Prop) (w:bf) (v:Value) (xs:List α) (bs:List Nat):Prop :=
 ∃(css:List (Raw sz)) (subs:List (List Nat)),jm E w 0 v css∧css.length*E.qy<=140737488355328∧Na (fun c x s=>R w c.1 x s) css xs subs∧bs=zx v++subs.flatten
def aky {α:Type} (R:bf->List Value->α->List Nat->Prop):Prop:=∀w w' cs x bs,R w cs x bs->Fr bs w w'->R w' cs x bs
def au2 {α:Type} (Ts:List Nat) (R:bf->List Value->α->List Nat->Prop):Prop:=∀w cs x bs,R w cs x bs->V8 Ts bs w
theorem aah.fr {α:Type} {sz:Nat} {E:F6 Tryz.prog (Raw sz)} {R:bf->List Value->α->List Nat->Prop} (hR:aky R) {w w':bf} {v:Value} {xs:List α} {bs:List Nat} (h:aah E R w v xs bs) (hf:Fr bs w w'):aah E R w' v xs bs:=by
 obtain⟨css,subs,h1,h2,h3,rfl⟩:=h;refine⟨css,subs,h1.Ii (fun b hb=>hf b (List.mem_append_left _ (Ce.2 hb))),h2,h3.mono (fun c x s _ _ hs h9=>hR _ _ _ _ _ h9 (fun b hb=>hf b (List.mem_append_right _ (List.mem_flatten.2 ⟨s,hs,hb⟩)))),rfl⟩
theorem aah.typ {α:Type} {sz:Nat} {E:F6 Tryz.prog (Raw sz)} {R:bf->List Value->α->List Nat->Prop} {Ts:List Nat} (hR:au2 Ts R) {w:bf} {v:Value} {xs:List α} {bs:List Nat} (h:aah E R w v xs bs):V8 (E.T::Ts) bs w:=by
 obtain⟨css,subs,h1,h2,h3,rfl⟩:=h;refine V8.app (fun b hb=>?_) (fun b hb=>?_)
 ·obtain⟨cur,hh⟩:=h1.cellT (Ce.1 hb)
  exact⟨cur,E.T,H7 ..,hh⟩
 ·obtain⟨s,hs,hb2⟩:=List.mem_flatten.1 hb
  obtain⟨i,hi,rfl⟩:=List.mem_iff_getElem.1 hs;have hl:=h3.len;obtain⟨cur,T,hT,hh⟩:=hR _ _ _ _ (h3.get i (by omega) (by omega) hi) b hb2;exact⟨cur,T,G8 _ hT,hh⟩
def bby {sz:Nat} (_:Nat) (_:bf) (cs:List Value) (c:Raw sz):Prop:=cs=c.1
theorem iy.ofRaw {α:Type} {sz qy lo:Nat} {R:Nat->bf->List Value->α->Prop} {w:bf} {v:Value} {css:List (Raw sz)} {xs:List α} (h:iy sz qy bby lo w v css) (hl:css.length=xs.length) (hR:∀i (h1:i<css.length) (h2:i<xs.length),R lo w css[i].1 xs[i]):iy sz qy R lo w v xs:=by
 obtain⟨a,cap,rfl,h1,h2,h3⟩:=h;rw[hl] at h1 h2;refine⟨a,cap,by rw[hl],h1,h2,fun i hi=>?_⟩;obtain⟨b,o,cs,e1,e2,e3,e4,e5,e6⟩:=h3 i (by omega);have e7:cs=css[i].1:=e6;exact⟨b,o,cs,e1,e2,e3,e4,e5,by rw[e7];exact hR i (by omega) hi⟩
theorem aah.sl {α:Type} {sz:Nat} {E:F6 Tryz.prog (Raw sz)} {R:bf->List Value->α->List Nat->Prop} {S:Nat->bf->List Value->α->Prop} (hE:E.sz=sz) (hf:∀c,E.f c=c.1) {w:bf} (hS:∀cs x bs,R w cs x bs->S 0 w cs x) {v:Value} {xs:List α} {bs:List Nat} (h:aah E R w v xs bs):iy sz E.qy S 0 w v xs:=by
 obtain⟨css,subs,h1,h2,h3,rfl⟩:=h;have h9:iy E.sz E.qy bby 0 w v css:=h1.at (fun c _=>hf c) h2;rw[hE] at h9;have hl:=h3.len;exact h9.ofRaw hl.1 (fun i g1 g2=>hS _ _ _ (h3.get i g1 g2 (by omega)))
def okS (s:dh):Prop:=Len s.size
def okI (t:ku):Prop:=Len t.name.size∧I64 t.op∧I64 t.val
def adh (t:jw):Prop:=Len t.name.size∧I64 t.type
def adu (w:bf) (cs:List Value) (l:List ku) (bs:List Nat):Prop:=∃v,cs=[v]∧Ub Gx okI w v l bs
def Y6 (w:bf) (cs:List Value) (t:lu) (bs:List Nat):Prop:=∃o c a b1 b2 b3,cs=[.int .i64 t.kind,.string t.name,.int .i64 t.at_,o,c,a]∧Len t.name.size∧I64 t.kind∧I64 t.at_∧Ub ni okS w o t.ak b1∧Ub Gx okI w c t.code b2∧aah an8 adu w a t.args b3∧bs=b1++b2++b3
def Dj (w:bf) (cs:List Value) (k:dw) (bs:List Nat):Prop:=∃v1 v2 v3 v4 v5 v6 b1 b2 b3 b4 b5 b6,cs=[.string k.name,v1,v2,v3,v4,v5,v6]∧Len k.name.size∧Ub Gh adh w v1 k.ins b1∧Ub Gh adh w v2 k.ak b2∧Ub ni okS w v3 k.iq b3∧Ub Xy I64 w v4 k.eu b4∧Ub Xy I64 w v5 k.au b5∧aah abu Y6 w v6 k.body b6∧bs=b1++b2++b3++b4++b5++b6
theorem Yk:aky adu:=fun _ _ _ _ _ ⟨v,h1,h2⟩ hf=>⟨v,h1,h2.fr hf⟩
theorem Qz:aky Y6:=fun _ _ _ _ _ ⟨o,c,a,b1,b2,b3,h1,h2,h3,h4,h5,h6,h7,h8⟩ hf=>by
 subst h8;exact⟨o,c,a,b1,b2,b3,h1,h2,h3,h4,h5.fr hf.left.left,h6.fr hf.left.right,h7.fr Yk hf.right,rfl⟩
theorem I8:aky Dj:=fun _ _ _ _ _ ⟨v1,v2,v3,v4,v5,v6,b1,b2,b3,b4,b5,b6,h0,hn,h1,h2,h3,h4,h5,h6,h8⟩ hf=>by
 subst h8;exact⟨v1,v2,v3,v4,v5,v6,b1,b2,b3,b4,b5,b6,h0,hn,h1.fr hf.left.left.left.left.left,h2.fr hf.left.left.left.left.right,h3.fr hf.left.left.left.right,h4.fr hf.left.left.right,h5.fr hf.left.right,h6.fr Qz hf.right,rfl⟩
def a4b:List Nat:=[9,83,56]
def am8:List Nat:=[54,9,3,60,83,56]
theorem alz:au2 [83] adu:=fun _ _ _ _ ⟨v,_,h2⟩=>h2.typ
theorem ahf:au2 a4b Y6:=fun _ _ _ _ ⟨o,c,a,b1,b2,b3,h1,h2,h3,h4,h5,h6,h7,h8⟩=>by
 subst h8
 exact((h5.typ.wide (fun t ht=>by rw[yj] at ht;rw[ht];decide)).app (h6.typ.wide (fun t ht=>by rw[yj] at ht;rw[ht];decide))).app ((h7.typ alz).wide (fun t ht=>by
  rcases ql.1 ht with rfl|h9
  ·decide
  ·rw[yj] at h9;rw[h9];decide))
theorem avv:au2 am8 Dj:=fun _ _ _ _ ⟨v1,v2,v3,v4,v5,v6,b1,b2,b3,b4,b5,b6,h0,hn,h1,h2,h3,h4,h5,h6,h8⟩=>by
 subst h8;have one:∀{T:Nat} {bs:List Nat} {w:bf},V8 [T] bs w->T∈am8->V8 am8 bs w:=fun h hT=>h.wide (fun t ht=>by rw[yj] at ht;rw[ht];exact hT)
 refine(((((one h1.typ (by decide)).app (one h2.typ (by decide))).app (one h3.typ (by decide))).app (one h4.typ (by decide))).app (one h5.typ (by decide))).app ((h6.typ ahf).wide (fun t ht=>?_));rcases ql.1 ht with rfl|h9
 ·decide
 ·unfold a4b at h9
  unfold am8;simp only[ql,xg,xk] at h9 ⊢;omega
theorem ayi {w:bf} {cs:List Value} {l:List ku} {bs:List Nat} (h:adu w cs l bs):Io 0 w cs l:=by
 obtain⟨v,h1,h2⟩:=h;exact⟨v,h1,h2.sl (fun x hx=>⟨rfl,hx.1,hx.2.1,hx.2.2⟩)⟩
theorem a6x {w:bf} {cs:List Value} {t:lu} {bs:List Nat} (h:Y6 w cs t bs):Zu 0 w cs t:=by
 obtain⟨o,c,a,b1,b2,b3,h1,h2,h3,h4,h5,h6,h7,h8⟩:=h;exact⟨o,c,a,h1,h2,h3,h4,h5.sl (fun x hx=>⟨rfl,hx⟩),h6.sl (fun x hx=>⟨rfl,hx.1,hx.2.1,hx.2.2⟩),h7.sl rfl (fun _=>rfl) (fun cs x bs h=>ayi h)⟩
theorem avu {w:bf} {cs:List Value} {k:dw} {bs:List Nat} (h:Dj w cs k bs):Dl 0 w cs k:=by
 obtain⟨v1,v2,v3,v4,v5,v6,b1,b2,b3,b4,b5,b6,h0,hn,h1,h2,h3,h4,h5,h6,h8⟩:=h;exact⟨v1,v2,v3,v4,v5,v6,h0,hn,h1.sl (fun x hx=>⟨rfl,hx.1,hx.2⟩),h2.sl (fun x hx=>⟨rfl,hx.1,hx.2⟩),h3.sl (fun x hx=>⟨rfl,hx⟩),h4.sl (fun x hx=>⟨rfl,hx⟩),h5.sl (fun x hx=>⟨rfl,hx⟩),h6.sl rfl (fun _=>rfl) (fun cs x bs h=>a6x h)⟩
theorem jm.ae4 {P:Program} {α:Type} {E:F6 P α} {w:bf} {base:Nat} {v:Value} {xs:List α} (h:jm E w base v xs):(∃a cap,v=.slice a 0 cap∧xs=[])∨∃g cap,v=.slice (some ⟨g,0,none⟩) xs.length cap∧∀i (hi:i<xs.length) j (hj:j<(E.f xs[i]).length),w.cell? ⟨g,i*E.sz+j,none⟩=some (E.f xs[i])[j]∧w.frozen? ⟨g,i*E.sz+j,none⟩=false:=by
 have h':=h;rcases h.shape with ⟨rfl,rfl⟩|⟨g,cap,rfl,hb,hlt,hcap⟩
 ·exact Or.inl ⟨_,_,rfl,rfl⟩
 ·refine Or.inr ⟨g,cap,rfl,fun i hi j hj=>⟨?_,?_⟩⟩
  ·have hjs:j<E.sz:=by rw[←E.hf xs[i]];exact hj
   have:=World.ownsRow.cells h' (g:=g) rfl (i*E.sz+j) (E.f xs[i])[j] (by rw[flat_get E.f E.sz E.hf xs i hi j hjs];simp[hj]);rw[Addr.add_lit] at this;simpa using this
  ·obtain⟨cur,hh⟩:=h'.cellT (g:=g) rfl
   simp[World.frozen?,hh]
theorem iy.qy {α:Type} {sz qy lo:Nat} {R:Nat->bf->List Value->α->Prop} {w:bf} {v:Value} {xs:List α} (h:iy sz qy R lo w v xs):xs.length*qy<=140737488355328:=by
 obtain⟨a,cap,_,⟨h1,_⟩,_⟩:=h;exact h1
theorem bbw {w:bf} {g:Nat} {e:TypeId} {cs:Array Value} (h:jc w g e cs) (o:Obj):jc (w.alloc o) g e cs:=h.below ((gy _ _).alloc (gq _) _) h.lt
theorem aa8 {w:bf} {g:Nat} {e:TypeId} {cs:Array Value} (h:g=w.heap.size):jc (w.alloc (.cells cs e)) g e cs:=by subst h;exact og w _ _
theorem Zj {w:bf} {B:Nat} {v:Value} {cs:List (Raw 7)} (h:jm Fa w B v cs) (i:Nat) (hi:i<cs.length):∃g cap,v=.slice (some ⟨g,0,none⟩) cs.length cap∧(∀k u,cs[i].1[k]?=some u->w.cell? ⟨g,i*7+k,none⟩=some u):=by
 rcases h.ae4 with ⟨_,_,hh1,hh2⟩|⟨g',cap',hh1,hh2⟩
 ·rw[hh2] at hi;exact absurd hi (yt _)
 ·refine⟨g',cap',hh1,fun k u hu=>?_⟩
  obtain⟨hk,hku⟩:=List.getElem?_eq_some_iff.1 hu;have h9:=(hh2 i hi k hk).1;have e9:(Fa.f cs[i])=cs[i].1:=rfl;simp only[e9] at h9;rw[hku] at h9;exact h9
def bc7:Go.Shelf.Ren:=⟨fun|25=>89|n=>n,fun|0=>0|3=>3|4=>4|5=>5|9=>9|37=>64|47=>101|n=>n,fun|n=>n⟩
theorem bbz:LaysPu.n25 Tryz.prog bc7:={
 mixed:=by kernel_rfl
 f25:=Tryz.func89.trans (mg some (by kernel_rfl))
 t0:=Tryz.underlying0
 a0:=Tryz.isAgg0
 z0:=Tryz.sizeOf0
 v0:=Tryz.zeroValue0
 i0:=by kernel_rfl
 t3:=Tryz.underlying3
 a3:=Tryz.isAgg3
 z3:=Tryz.sizeOf3
 v3:=Tryz.zeroValue3
 i3:=by kernel_rfl
 t4:=Tryz.underlying4
 a4:=Tryz.isAgg4
 z4:=Tryz.sizeOf4
 v4:=Tryz.zeroValue4
 i4:=by kernel_rfl
 t5:=Tryz.underlying5
 a5:=Tryz.isAgg5
 z5:=Tryz.sizeOf5
 v5:=Tryz.zeroValue5
 i5:=by kernel_rfl
 t9:=Tryz.underlying9
 a9:=Tryz.isAgg9
 z9:=Tryz.sizeOf9
 v9:=Tryz.zeroValue9
 i9:=by kernel_rfl
 t37:=Tryz.underlying64
 a37:=Tryz.isAgg64
 z37:=Tryz.sizeOf64
 v37:=Tryz.zeroValue64
 i37:=by kernel_rfl
 t47:=Tryz.underlying101
 a47:=Tryz.isAgg101
 z47:=Tryz.sizeOf101
 v47:=Tryz.zeroValue101
 i47:=by kernel_rfl }
theorem au3 (s:dh) (w:bf) (h:Len s.size):Calls Tryz.prog 89 #[.string s] w (Ans (.string s) w):=by
 have h9:=AnyPu.stringslite_Clone bbz s w (by unfold Len at h;omega);exact h9
theorem apj (s:dh) (w:bf) (h:Len s.size):Calls Tryz.prog 58 #[.string s] w (Ans (.string s) w):=by
 have HC:=hide (au3 s w h);clear h;go_enter Tryz.func58,Tryz.ntmps58;go_wp2_with fail;refine(uh HC).mono ?_;rintro e w1 ⟨rfl,hb⟩;have HB:=hide hb;clear hb;go_wp2;go_ret;exact⟨rfl,uh HB⟩
def Kind2 (v v':Value):Prop:=v'=v∨(∃x y,v=.int .i64 x∧v'=.int .i64 y)∨(∃s t,v=.string s∧v'=.string t)∨(∃s t,v=.bool s∧v'=.bool t)
theorem Kind2.refl (v:Value):Kind2 v v:=Or.inl rfl
theorem Kind2.int {x:Int} {v':Value} (h:Kind2 (.int .i64 x) v'):∃y,v'=.int .i64 y:=by
 rcases h with h|⟨_,y,_,h⟩|⟨s,_,h,_⟩|⟨s,_,h,_⟩
 ·exact⟨x,h⟩
 ·exact⟨y,h⟩
 ·cases h
 ·cases h
theorem Kind2.str {x:dh} {v':Value} (h:Kind2 (.string x) v'):∃y,v'=.string y:=by
 rcases h with h|⟨_,y,h,_⟩|⟨s,t,_,h⟩|⟨s,_,h,_⟩
 ·exact⟨x,h⟩
 ·cases h
 ·exact⟨t,h⟩
 ·cases h
theorem Kind2.boo {x:Bool} {v':Value} (h:Kind2 (.bool x) v'):∃y,v'=.bool y:=by
 rcases h with h|⟨_,y,h,_⟩|⟨s,_,h,_⟩|⟨s,t,_,h⟩
 ·exact⟨x,h⟩
 ·cases h
 ·cases h
 ·exact⟨t,h⟩
theorem Kind2.sl {a:Option Addr} {n c:Nat} {v':Value} (h:Kind2 (.slice a n c) v'):v'=.slice a n c:=by
 rcases h with h|⟨_,y,h,_⟩|⟨s,t,h,_⟩|⟨s,t,h,_⟩
 ·exact h
 ·cases h
 ·cases h
 ·cases h
theorem Kind2.trans {a b c:Value} (h:Kind2 a b) (k:Kind2 b c):Kind2 a c:=by
 rcases h with rfl|⟨x,y,rfl,rfl⟩|⟨s,t,rfl,rfl⟩|⟨s,t,rfl,rfl⟩
 ·exact k
 ·obtain⟨z,rfl⟩:=k.int
  exact Or.inr (Or.inl ⟨_,_,rfl,rfl⟩)
 ·obtain⟨z,rfl⟩:=k.str
  exact Or.inr (Or.inr (Or.inl ⟨_,_,rfl,rfl⟩))
 ·obtain⟨z,rfl⟩:=k.boo
  exact Or.inr (Or.inr (Or.inr ⟨_,_,rfl,rfl⟩))
theorem Kind2.ints (x y:Int):Kind2 (.int .i64 x) (.int .i64 y):=Or.inr (Or.inl ⟨x,y,rfl,rfl⟩)
theorem Kind2.strs (x y:dh):Kind2 (.string x) (.string y):=Or.inr (Or.inr (Or.inl ⟨x,y,rfl,rfl⟩))
theorem au4 (w:bf) (p q:Addr) (u:Value):(w.setCell p u).frozen? q=w.frozen? q:=by
 simp only[World.frozen?,World.setCell,Array.getElem?_modify]
 by_cases h:p.block=q.block
 ·rw[gu h]
  cases w.heap[q.block]? with
  | none=>rfl
  | some o=>cases o<;>rfl
 ·rw[ay h]
theorem afj (w:bf) (b o:Nat) (u v:Value) (h:w.cell? ⟨b,o,none⟩=some v):(w.setCell ⟨b,o,none⟩ u).cell? ⟨b,o,none⟩=some u:=by
 simp only[World.cell?,World.setCell,Array.getElem?_modify,if_true] at *
 cases hh:w.heap[b]? with
 | none=>rw[hh] at h;simp at h
 | some x =>
  cases x with
  | cells c t f =>
   rw[hh] at h;simp at h;have hl:o<c.size:=(Jk.1 h).1;simp[hl]
  | _=>rw[hh] at h;simp at h
structure Mk (lo hi:Nat) (w w':bf):Prop where
 os:w'.os=w.os
 tape:w'.tape=w.tape
 output:w'.output=w.output
 size:w.heap.size<=w'.heap.size
 out:∀k,k<w.heap.size->(k<lo∨hi<=k)->w'.heap[k]?=w.heap[k]?
 cells:∀b o v,lo<=b->b<hi->w.cell? ⟨b,o,none⟩=some v->∃v',w'.cell? ⟨b,o,none⟩=some v'∧Kind2 v v'
 frz:∀b o,lo<=b->b<hi->w'.frozen? ⟨b,o,none⟩=w.frozen? ⟨b,o,none⟩
theorem Mk.refl (lo hi:Nat) (w:bf):Mk lo hi w w:=⟨rfl,rfl,rfl,gq _,fun _ _ _=>rfl,fun _ _ v _ _ h=>⟨v,h,Kind2.refl v⟩,fun _ _ _ _=>rfl⟩
theorem Mk.trans {lo hi:Nat} {a b c:bf} (h:Mk lo hi a b) (k:Mk lo hi b c):Mk lo hi a c :=
 ⟨k.os.trans h.os,k.tape.trans h.tape,k.output.trans h.output,jq h.size k.size,fun i hi ho=>(k.out i (qj hi h.size) ho).trans (h.out i hi ho),fun bb o v h1 h2 h3=>by
  obtain⟨v1,h4,h5⟩:=h.cells bb o v h1 h2 h3;obtain⟨v2,h6,h7⟩:=k.cells bb o v1 h1 h2 h4;exact⟨v2,h6,h5.trans h7⟩,fun bb o h1 h2=>(k.frz bb o h1 h2).trans (h.frz bb o h1 h2)⟩
theorem Mk.of_below {lo hi:Nat} {w w':bf} (h:Below w.heap.size w w') (hh:hi<=w.heap.size):Mk lo hi w w' :=
 ⟨h.os,h.tape,h.output,h.size,fun k hk _=>h.block k hk,fun b o v _ h2 h3=>⟨v,(h.cell (p:=⟨b,o,none⟩) (show b<_ by omega)).trans h3,Kind2.refl v⟩,fun b o _ h2=>h.frozen (p:=⟨b,o,none⟩) (show b<_ by omega)⟩
theorem Mk.then {lo hi:Nat} {w w1 w':bf} (h:Mk lo hi w w1) (hb:Below w1.heap.size w1 w') (hh:hi<=w.heap.size):Mk lo hi w w':=h.trans (Mk.of_below hb (jq hh h.size))
theorem Mk.setCell {lo hi:Nat} {w w':bf} (h:Mk lo hi w w') {b o:Nat} {v u:Value} (h1:lo<=b) (h2:b<hi) (hc:w'.cell? ⟨b,o,none⟩=some v) (hk:Kind2 v u):Mk lo hi w (w'.setCell ⟨b,o,none⟩ u):=by
 refine h.trans ⟨rfl,rfl,rfl,by simp[World.setCell],fun k hk ho=>yx _ _ _ _ (by simp only;omega),fun b' o' v' h3 h4 h5=>?_,fun b' o' _ _=>au4 _ _ _ _⟩
 by_cases e:b'=b∧o'=o
 ·obtain⟨rfl,rfl⟩:=e
  rw[hc] at h5;obtain rfl:v=v':=by simpa using h5
  exact⟨u,afj _ _ _ _ _ hc,hk⟩
 ·exact⟨v',(La _ _ _ _ _ (by simp only;omega)).trans h5,Kind2.refl _⟩
theorem Mk.below {lo hi:Nat} {w w':bf} (h:Mk lo hi w w') (hl:lo<=w.heap.size):Below lo w w':=⟨h.os,h.tape,h.output,h.size,fun k hk=>h.out k (by omega) (Or.inl hk)⟩
def ElK {α:Type} (sz:Nat) (R:Nat->Nat->bf->List Value->α->Prop) (lo hi:Nat) (w:bf) (b off:Nat) (x:α):Prop :=
 lo<=b∧b<hi∧∃cs,cs.length=sz∧(∀j (hj:j<cs.length),w.cell? ⟨b,off+j,none⟩=some cs[j]∧w.frozen? ⟨b,off+j,none⟩=false)∧R lo hi w cs x
def MAt {α:Type} (sz:Nat) (R:Nat->Nat->bf->List Value->α->Prop) (lo hi:Nat) (w:bf) (v:Value) (xs:List α):Prop :=
 ∃a cap,v=.slice a xs.length cap∧Len xs.length∧∀i (h:i<xs.length),∃b o,a=some ⟨b,o,none⟩∧ElK sz R lo hi w b (o+i*sz) xs[i]
def au5 {α:Type} (R:Nat->Nat->bf->List Value->α->Prop):Prop:=∀lo hi w w' cs cs' x,Mk lo hi w w'->cs'.length=cs.length->(∀j (h:j<cs.length) (h':j<cs'.length),Kind2 cs[j] cs'[j])->R lo hi w cs x->R lo hi w' cs' x
theorem aju (sz:Nat) (P:Nat->Value->Prop) (h:∀j,j<sz->∃v,P j v):∃cs:List Value,cs.length=sz∧∀j (hj:j<cs.length),P j cs[j]:=by
 induction sz with
 | zero=>exact⟨[],rfl,fun j hj=>absurd hj (yt _)⟩
 | succ n ih =>
  obtain⟨cs,hl,hc⟩:=ih (fun j hj=>h j (by omega));obtain⟨v,hv⟩:=h n (by omega);refine⟨cs++[v],by simp[hl],fun j hj=>?_⟩
  by_cases e:j<cs.length
  ·rw[Rh e]
   exact hc j e
  ·have e2:j=cs.length:=by simp at hj;omega
   subst e2;rw[List.getElem_append_right (gq _)];simp only[Nat.sub_self,ny];rw[hl];exact hv
theorem ElK.stays {α:Type} {sz:Nat} {R:Nat->Nat->bf->List Value->α->Prop} (hR:au5 R) {lo hi:Nat} {w w':bf} {b off:Nat} {x:α} (hm:Mk lo hi w w') (h:ElK sz R lo hi w b off x):ElK sz R lo hi w' b off x:=by
 obtain⟨h1,h2,cs,hl,hc,hr⟩:=h;refine⟨h1,h2,?_⟩
 obtain⟨cs',hl',hc'⟩:=aju sz (fun j v=>w'.cell? ⟨b,off+j,none⟩=some v∧∃u,cs[j]?=some u∧Kind2 u v) (fun j hj=>by
  obtain⟨v',h3,h4⟩:=hm.cells b (off+j) _ h1 h2 (hc j (by omega)).1;exact⟨v',h3,_,jy (by omega),h4⟩)
 refine⟨cs',hl',fun j hj=>⟨(hc' j hj).1,?_⟩,hR _ _ _ _ _ _ _ hm (by omega) (fun j h3 h4=>?_) hr⟩
 ·rw[hm.frz b _ h1 h2]
  exact(hc j (by omega)).2
 ·obtain⟨_,u,h5,h6⟩:=hc' j h4
  rw[jy h3] at h5;obtain rfl:cs[j]=u:=by simpa using h5
  exact h6
theorem MAt.stays {α:Type} {sz:Nat} {R:Nat->Nat->bf->List Value->α->Prop} (hR:au5 R) {lo hi:Nat} {w w':bf} {v:Value} {xs:List α} (hm:Mk lo hi w w') (h:MAt sz R lo hi w v xs):MAt sz R lo hi w' v xs:=by
 obtain⟨a,cap,h1,h2,h3⟩:=h;refine⟨a,cap,h1,h2,fun i hi=>?_⟩;obtain⟨b,o,h4,h5⟩:=h3 i hi;exact⟨b,o,h4,h5.stays hR hm⟩
theorem MAt.shape {α:Type} {sz:Nat} {R:Nat->Nat->bf->List Value->α->Prop} {lo hi:Nat} {w:bf} {v:Value} {xs:List α} (h:MAt sz R lo hi w v xs):∃a cap,v=.slice a xs.length cap:=by
 obtain⟨a,cap,h1,_⟩:=h;exact⟨a,cap,h1⟩
theorem MAt.same {α:Type} {sz:Nat} {R:Nat->Nat->bf->List Value->α->Prop} (hR:au5 R) {lo hi:Nat} {w w':bf} {v v':Value} {xs:List α} (hm:Mk lo hi w w') (hk:Kind2 v v') (h:MAt sz R lo hi w v xs):MAt sz R lo hi w' v' xs:=by
 have h9:=h.stays hR hm;obtain⟨a,cap,rfl⟩:=h.shape;rw[hk.sl];exact h9
theorem aon {cs':List Value} {a:Value} (h:cs'.length=[a].length) (hk:∀j (h:j<[a].length) (h':j<cs'.length),Kind2 [a][j] cs'[j]):∃a',cs'=[a']∧Kind2 a a':=by
 match cs',h with
 | [a'],_=>exact⟨a',rfl,hk 0 (by simp) (by simp)⟩
theorem a9i {cs':List Value} {a b:Value} (h:cs'.length=[a,b].length) (hk:∀j (h:j<[a,b].length) (h':j<cs'.length),Kind2 [a,b][j] cs'[j]):∃a' b',cs'=[a',b']∧Kind2 a a'∧Kind2 b b':=by
 match cs',h with
 | [a',b'],_=>exact⟨a',b',rfl,hk 0 (by simp) (by simp),hk 1 (by simp) (by simp)⟩
theorem a9h {cs':List Value} {a b c:Value} (h:cs'.length=[a,b,c].length) (hk:∀j (h:j<[a,b,c].length) (h':j<cs'.length),Kind2 [a,b,c][j] cs'[j]):∃a' b' c',cs'=[a',b',c']∧Kind2 a a'∧Kind2 b b'∧Kind2 c c':=by
 match cs',h with
 | [a',b',c'],_=>exact⟨a',b',c',rfl,hk 0 (by simp) (by simp),hk 1 (by simp) (by simp),hk 2 (by simp) (by simp)⟩
theorem a9j {cs':List Value} {a b c d e f:Value} (h:cs'.length=[a,b,c,d,e,f].length) (hk:∀j (h:j<[a,b,c,d,e,f].length) (h':j<cs'.length),Kind2 [a,b,c,d,e,f][j] cs'[j]):∃a' b' c' d' e' f',cs'=[a',b',c',d',e',f']∧Kind2 a a'∧Kind2 b b'∧Kind2 c c'∧Kind2 d d'∧Kind2 e e'∧Kind2 f f':=by
 match cs',h with
 | [a',b',c',d',e',f'],_=>exact⟨a',b',c',d',e',f',rfl,hk 0 (by simp) (by simp),hk 1 (by simp) (by simp),hk 2 (by simp) (by simp),hk 3 (by simp) (by simp),hk 4 (by simp) (by simp),hk 5 (by simp) (by simp)⟩
theorem a9k {cs':List Value} {a b c d e f g:Value} (h:cs'.length=[a,b,c,d,e,f,g].length) (hk:∀j (h:j<[a,b,c,d,e,f,g].length) (h':j<cs'.length),Kind2 [a,b,c,d,e,f,g][j] cs'[j]):∃a' b' c' d' e' f' g',cs'=[a',b',c',d',e',f',g']∧Kind2 a a'∧Kind2 b b'∧Kind2 c c'∧Kind2 d d'∧Kind2 e e'∧Kind2 f f'∧Kind2 g g':=by
 match cs',h with
 | [a',b',c',d',e',f',g'],_=>exact⟨a',b',c',d',e',f',g',rfl,hk 0 (by simp) (by simp),hk 1 (by simp) (by simp),hk 2 (by simp) (by simp),hk 3 (by simp) (by simp),hk 4 (by simp) (by simp),hk 5 (by simp) (by simp),hk 6 (by simp) (by simp)⟩
def mStr (_:dh):Nat:=1
def akz (_:Int):Nat:=1
def ajx (_:ku):Nat:=3
def ajz (l:List ku):Nat:=Vh ajx l l.length
theorem Uw {α:Type} (f g:α->Nat) (c:Nat) (hc:∀x,f x<=c*(1+g x)) (xs:List α):Vh f xs xs.length<=c*oq g xs:=by
 unfold Vh oq;rw[Eb]
 induction xs with
 | nil=>simp
 | cons x xs ih =>
  have h1:=hc x;simp only[Ap,List.sum_cons,uf];rw[show xs.length+1+(g x+(xs.map g).sum)=(1+g x)+(xs.length+(xs.map g).sum) from by omega,Nat.mul_add];omega
theorem ar4 (xs:List dh):Vh mStr xs xs.length<=8*oq Qw xs:=Uw _ _ _ (fun x=>by unfold mStr;omega) xs
theorem apw (xs:List ku):Vh ajx xs xs.length<=8*oq Gq xs:=Uw _ _ _ (fun x=>by unfold ajx;omega) xs
theorem ayj (xs:List (List ku)):Vh ajz xs xs.length<=8*oq (oq Gq) xs:=Uw _ _ _ (fun x=>by have:=apw x;unfold ajz;omega) xs
theorem ar5 (xs:List Int):Vh akz xs xs.length<=xs.length:=by
 have h:=Uw akz (fun _=>0) 1 (fun x=>by unfold akz;omega) xs
 have e:oq (fun _:Int=>0) xs=xs.length:=by
  unfold oq
  have h9:∀l:List Int,(l.map (fun _:Int=>0)).sum=0:=by
   intro l
   induction l with
   | nil=>rfl
   | cons x l ih=>simpa using ih
  rw[h9];omega
 omega
def ajy (_:jw):Nat:=2
def aov (t:lu):Nat:=3+Vh mStr t.ak t.ak.length+Vh ajx t.code t.code.length+Vh ajz t.args t.args.length
def aga (k:dw):Nat:=1+Vh ajy k.ins k.ins.length+Vh ajy k.ak k.ak.length+Vh mStr k.iq k.iq.length+Vh akz k.eu k.eu.length+Vh akz k.au k.au.length+Vh aov k.body k.body.length
theorem apx (xs:List jw):Vh ajy xs xs.length<=8*oq Ul xs:=Uw _ _ _ (fun x=>by unfold ajy;omega) xs
theorem a6y (xs:List lu):Vh aov xs xs.length<=8*oq Nv xs:=Uw _ _ _ (fun x=>by
 have h1:=ar4 x.ak;have h2:=apw x.code;have h3:=ayj x.args;unfold aov Nv;omega) xs
theorem aw3 (xs:List dw):Vh aga xs xs.length<=8*oq qx xs:=Uw _ _ _ (fun x=>by
 have h1:=apx x.ins;have h2:=apx x.ak;have h3:=ar4 x.iq;have h4:=ar5 x.eu;have h5:=ar5 x.au;have h6:=a6y x.body;unfold aga qx;omega) xs
theorem bc8 (w:bf) (d:Int):(convert 64 9 (.slice (some ⟨w.heap.size,0,none⟩) 1 1)).run Tryz.prog (w.alloc (.cells #[.int .u8 d] 5))=.ok (.string (ByteArray.empty.push (UInt8.ofNat d.toNat))) (w.alloc (.cells #[.int .u8 d] 5)):=by
 rw[run_convert_bytes_string _ _ _ _ _ _ _ Tryz.underlying64 Tryz.underlying5 Tryz.underlying9];refine run_bytesToString _ _ _ _ [d] ?_;simp[loadCells,go_sem]
def dgB (n:Nat):dh:=ByteArray.empty.push (48+UInt8.ofNat (n % 10))
def mtB (n:Nat) (s:dh):dh:=if h:n=0 then s else mtB (n / 10) (dgB n++s)
 termination_by n
 decreasing_by omega
def Hg (k:Nat):dh:=if k=0 then ⟨#[109,48]⟩ else ⟨#[109]⟩++mtB k ByteArray.empty
theorem aqr (k:Nat) (w:bf) (hk:k<=4611686018427387904):Calls Tryz.prog 41 #[.int .i64 (k:Int)] w (Ans (.string (Hg k)) w):=by
 have hcv:=bc8
 by_cases h0:k=0
 ·subst h0
  go_enter Tryz.func41,Tryz.ntmps41;go_wp2;go_ret;exact⟨rfl,gy _ _⟩
 have e0:decide ((k:Int)<=0)=false:=iw (by omega)
 have HMT:Hid (Hg k=⟨#[109]⟩++mtB k ByteArray.empty):=by
  refine hide ?_;unfold Hg;rw[ay h0]
 generalize Hg k=R at *;go_enter Tryz.func41,Tryz.ntmps41;go_wp2
 go_loopg [0,3] k (fun g kk o wr=>∃(n:Nat) (s:dh),n<=k∧g=n∧kk=.int .i64 (n:Int)∧o=.string s∧Hid (mtB n s=mtB k ByteArray.empty)∧s.size+n<=k∧Below w.heap.size w wr)
 case atStart=>exact⟨k,_,gq _,rfl,rfl,rfl,rfl,(by show 0+k<=k;omega),gy _ _⟩
 case round =>
  obtain⟨n,s,hn,hg,rfl,rfl,hm,hsz,hbl⟩:=hrel;have HG:=hide hg;have Ah:=hide hbl;have hs:=hbl.size;clear hg hbl
  by_cases hz:n=0
  ·have HE:Hid (s=mtB k ByteArray.empty):=by
    refine hide ?_;have h9:=uh hm;rw[hz] at h9;rw[←h9];unfold mtB;simp
   have f1:decide (0<(n:Int))=false:=iw (by omega);have f2:decide (0<n)=false:=iw (by omega);clear hm hz;go_wp2
   all_goals
    go_ret;refine⟨?_,uh Ah⟩;rw[uh HMT,uh HE];rfl
  ·have f1:decide (0<(n:Int))=true:=jf (by omega)
   have HS:Hid (mtB (n / 10) (ByteArray.empty.push (48+UInt8.ofNat (n % 10))++s)=mtB k ByteArray.empty):=by
    refine hide ?_;rw[←uh hm];conv=>rhs;unfold mtB
    rw[dif_neg hz];rfl
   clear hm;have HSZ:=hide hsz;go_wp2
   go_roundg (n / 10)
   case measure=>have:=uh HG;omega
   case rel=>exact⟨n / 10,_,by omega,rfl,by go_num,rfl,HS,(by rw[ByteArray.size_append,ByteArray.size_push];have:=uh HSZ;have h3:ByteArray.empty.size=0:=rfl;omega),(uh Ah).alloc hs _⟩
theorem Lu (K:Int) (k:Nat) (w:bf) (hK:K=(k:Int)) (hk:k<=4611686018427387904):Calls Tryz.prog 41 #[.int .i64 K] w (Ans (.string (Hg k)) w):=by
 subst hK;exact aqr k w hk
end Go.Proofs.YtfeejeflmcapoaaGreatDoor
