import Derived.Test.YtfeejeflmcapoaaGreatDoorMI17
import Derived.Test.YtfeejeflmcapoaaGreatDoorImplFresh
import Derived.Shelf.Pu.Clone
import Derived.Test.YtfeejeflmcapoaaGreatDoorData
import Derived.Test.YtfeejeflmcapoaaGreatDoorProg
import Derived.WalkLawsBesides
import Derived.Deep.LoopGhost
import Derived.Laws.BytesString
set_option linter.unusedSimpArgs false
set_option linter.unusedVariables false
set_option maxHeartbeats 1000000
namespace Go.Proofs.YtfeejeflmcapoaaGreatDoor
open Go.RowKit
abbrev Raw (sz:Nat):={ cs:List Value // cs.length=sz/\∀u,u∈cs->u.oneCell'=true }
def auy (T ST sz uf:Nat) (z:Value) (hT:Tryz.prog.underlying ST=some (.slice T)) (hi:(Tryz.prog.info? T).map (fun i=>(i.zero,i.size,i.bytes))=some (some z,sz,uf)) (hz:z.cells.size=sz) (hsz:0<sz) (hby:0<uf):Fj Tryz.prog (Raw sz) where
 T:=T
 ST:=ST
 sz:=sz
 uf:=uf
 f:=fun c=>c.1
 z:=z
 hT:=hT
 hi:=hi
 hz:=hz
 hf:=fun c=>c.2.1
 h1:=fun c=>c.2.2
 hsz:=hsz
 hby:=hby
def an7:Fj Tryz.prog (Raw 1):=auy 56 58 1 24 (.slice none 0 0) Tryz.underlying58 (by kernel_rfl) rfl (by decide) (by decide)
def abq:Fj Tryz.prog (Raw 6):=auy 60 48 6 104 (.agg #[.int .i64 0,.string ByteArray.empty,.int .i64 0,.slice none 0 0,.slice none 0 0,.slice none 0 0]) Tryz.underlying48 (by kernel_rfl) rfl (by decide) (by decide)
def Et:Fj Tryz.prog (Raw 7):=auy 50 22 7 160 (.agg #[.string ByteArray.empty,.slice none 0 0,.slice none 0 0,.slice none 0 0,.slice none 0 0,.slice none 0 0,.slice none 0 0]) Tryz.underlying22 (by kernel_rfl) rfl (by decide) (by decide)
def zq (v:Value):List Nat:=v.ownBlock.toList
theorem Bq {v:Value} {b:Nat}:b∈zq v↔v.ownBlock=some b:=by
 unfold zq;rw[Option.mem_toList]
def Tz {α β γ:Type} (R:α->β->γ->Prop):List α->List β->List γ->Prop
 | [],[],[]=>True
 | a :: la,b :: lb,c :: lc=>R a b c ∧ Tz R la lb lc
 | _,_,_=>False
theorem Tz.nil {α β γ:Type} {R:α->β->γ->Prop}:Tz R [] [] []:=trivial
theorem Tz.cons {α β γ:Type} {R:α->β->γ->Prop} {a:α} {b:β} {c:γ} {la:List α} {lb:List β} {lc:List γ} (h:R a b c) (k:Tz R la lb lc):Tz R (a :: la) (b :: lb) (c :: lc):=⟨h,k⟩
theorem Tz.ind {α β γ:Type} {R:α->β->γ->Prop} {motive:∀ la lb lc,Tz R la lb lc->Prop} (nil:motive [] [] [] Tz.nil) (cons:∀ {a b c la lb lc} (h:R a b c) (k:Tz R la lb lc),motive la lb lc k->motive (a :: la) (b :: lb) (c :: lc) (Tz.cons h k)):∀ {la lb lc} (t:Tz R la lb lc),motive la lb lc t
 | [],[],[],_=>nil
 | _ :: _,_ :: _,_ :: _,t=>cons t.1 t.2 (Tz.ind nil cons t.2)
theorem Tz.inv {α β γ:Type} {R:α->β->γ->Prop} {motive:∀ la lb lc,Tz R la lb lc->Prop} {la lb lc} (t:Tz R la lb lc) (nil:motive [] [] [] Tz.nil) (cons:∀ {a b c la lb lc} (h:R a b c) (k:Tz R la lb lc),motive (a :: la) (b :: lb) (c :: lc) (Tz.cons h k)):motive la lb lc t:=Tz.ind (motive:=motive) nil (fun h k _=>cons h k) t
theorem Tz.len {α β γ:Type} {R:α->β->γ->Prop} {la:List α} {lb:List β} {lc:List γ} (h:Tz R la lb lc):la.length=lb.length/\lc.length=lb.length:=by
 induction h using Tz.ind with
 | nil=>exact⟨rfl,rfl⟩
 | cons _ _ ih=>exact⟨by simp[ih.1],by simp[ih.2]⟩
theorem Tz.app {α β γ:Type} {R:α->β->γ->Prop} {la la':List α} {lb lb':List β} {lc lc':List γ} (h:Tz R la lb lc) (k:Tz R la' lb' lc'):Tz R (la++la') (lb++lb') (lc++lc'):=by
 induction h using Tz.ind with
 | nil=>exact k
 | cons h _ ih=>exact .cons h ih
theorem Tz.get {α β γ:Type} {R:α->β->γ->Prop} {la:List α} {lb:List β} {lc:List γ} (h:Tz R la lb lc):∀i (h1:i<la.length) (h2:i<lb.length) (h3:i<lc.length),R la[i] lb[i] lc[i]:=by
 induction h using Tz.ind with
 | nil=>intro i h1;exact absurd h1 (yu _)
 | cons h _ ih =>
  intro i h1 h2 h3
  cases i with
  | zero=>exact h
  | succ i=>exact ih i (by simpa using h1) (by simpa using h2) (by simpa using h3)
theorem Tz.mono {α β γ:Type} {R S:α->β->γ->Prop} {la:List α} {lb:List β} {lc:List γ} (h:Tz R la lb lc) (k:∀a b c,a∈la->b∈lb->c∈lc->R a b c->S a b c):Tz S la lb lc:=by
 induction h using Tz.ind with
 | nil=>exact .nil
 | cons h _ ih=>exact .cons (k _ _ _ (Hr ..) (Hr ..) (Hr ..) h) (ih fun a b c h1 h2 h3 h4=>k a b c (Gu _ h1) (Gu _ h2) (Gu _ h3) h4)
theorem jq.cellT {P:Program} {α:Type} {E:Fj P α} {w:cu} {base:Nat} {v:Value} {xs:List α} (h:jq E w base v xs) {g:Nat} (hg:v.ownBlock=some g):∃cur,w.heap[g]?=some (.cells cur E.T (0,0)):=by
 obtain⟨_,h2⟩:=h;rcases h2 with ⟨rfl,_⟩|⟨g',cap,cur,rfl,_,hh,_⟩
 ·cases hg
 ·cases hg
  exact⟨cur,hh⟩
theorem jq.low {P:Program} {α:Type} {E:Fj P α} {w:cu} {b1:Nat} {v:Value} {xs:List α} (h:jq E w b1 v xs) {b2:Nat} (hb:b2<=b1):jq E w b2 v xs:=by
 obtain⟨h1,h2⟩:=h;refine⟨h1,?_⟩;rcases h2 with h2|⟨g,cap,cur,hv,hg,r⟩
 ·exact Or.inl h2
 ·exact Or.inr ⟨g,cap,cur,hv,ku hb hg,r⟩
def Fr (bs:List Nat) (w w':cu):Prop:=∀b,b∈bs->w'.heap[b]?=w.heap[b]?
def X7 (Ts:List Nat) (bs:List Nat) (w:cu):Prop:=∀b,b∈bs->∃cur T,T∈Ts/\w.heap[b]?=some (.cells cur T (0,0))
structure KpX (T:Nat) (A B:cu):Prop where
 os:B.os=A.os
 tape:B.tape=A.tape
 output:B.output=A.output
 size:A.heap.size<=B.heap.size
 other:∀(k:Nat) (o:Obj),A.heap[k]?=some o->(∀cs z,o≠.cells cs T z)->B.heap[k]?=some o
theorem KpX.arw {T:Nat} {A B:cu} {row:Option Nat} (h:A.grownBy B row) (hr:∀b,row=some b->∃cs z,A.heap[b]?=some (.cells cs T z)):KpX T A B :=
 ⟨h.os,h.tape,h.output,h.size,fun k o h1 h2=>(h.block k (Kv.1 h1).1 (fun e=>by
  obtain⟨cs,z,h9⟩:=hr k e.symm;rw[h1] at h9;exact h2 cs z (Gv h9))).trans h1⟩
theorem KpX.set {T:Nat} {A:cu} {b:Nat} {cs:Array Value} {z:Nat×Nat} (h:A.heap[b]?=some (.cells cs T z)) (o:Nat) (u:Value):KpX T A (A.setCell ⟨b,o,none⟩ u) :=
 KpX.arw (row:=some b) ⟨rfl,rfl,rfl,by simp[World.setCell],fun k _ hk=>zf _ _ _ _ (fun e=>hk (by simp only at e;rw[e]))⟩ (fun b' e=>by cases e;exact⟨cs,z,h⟩)
theorem KpX.blk {T:Nat} {A B:cu} (h:KpX T A B) {b U:Nat} {cs:Array Value} (hb:jd A b U cs) (h1:U≠T):jd B b U cs :=
 h.other b _ hb (fun cs z e=>by simp only[Obj.cells.injEq] at e;exact h1 e.2.1)
theorem X7.app {Ts bs bs':List Nat} {w:cu} (h:X7 Ts bs w) (k:X7 Ts bs' w):X7 Ts (bs++bs') w:=fun b hb=>(Dx.1 hb).elim (h b) (k b)
theorem X7.wide {Ts Ts' bs:List Nat} {w:cu} (h:X7 Ts bs w) (hs:∀t,t∈Ts->t∈Ts'):X7 Ts' bs w:=fun b hb=>by
 obtain⟨cur,T,hT,hh⟩:=h b hb;exact⟨cur,T,hs T hT,hh⟩
theorem Fr.left {bs bs':List Nat} {w w':cu} (h:Fr (bs++bs') w w'):Fr bs w w':=fun b hb=>h b (List.mem_append_left _ hb)
theorem Fr.right {bs bs':List Nat} {w w':cu} (h:Fr (bs++bs') w w'):Fr bs' w w':=fun b hb=>h b (List.mem_append_right _ hb)
theorem X7.lt {Ts bs:List Nat} {w:cu} (h:X7 Ts bs w):∀b,b∈bs->b<w.heap.size:=fun b yx=>by
 obtain⟨cur,T,_,hh⟩:=h b yx;exact(Kv.1 hh).1
def Tn {α:Type} (E:Fj Tryz.prog α) (ok:α->Prop) (w:cu) (v:Value) (xs:List α) (bs:List Nat):Prop:=jq E w 0 v xs/\(∀x,x∈xs->ok x)/\xs.length*E.uf<=140737488355328/\bs=zq v
theorem Tn.fr {α:Type} {E:Fj Tryz.prog α} {ok:α->Prop} {w w':cu} {v:Value} {xs:List α} {bs:List Nat} (h:Tn E ok w v xs bs) (hf:Fr bs w w'):Tn E ok w' v xs bs:=by
 obtain⟨h1,h2,h3,rfl⟩:=h;exact⟨h1.Ia (fun b hb=>hf b (Bq.2 hb)),h2,h3,rfl⟩
theorem Tn.typ {α:Type} {E:Fj Tryz.prog α} {ok:α->Prop} {w:cu} {v:Value} {xs:List α} {bs:List Nat} (h:Tn E ok w v xs bs):X7 [E.T] bs w:=by
 obtain⟨h1,h2,h3,rfl⟩:=h;intro b hb;obtain⟨cur,hh⟩:=h1.cellT (Bq.1 hb);exact⟨cur,E.T,yt.2 rfl,hh⟩
theorem Tn.sl {α:Type} {E:Fj Tryz.prog α} {ok:α->Prop} {R:Nat->cu->List Value->α->Prop} {w:cu} {v:Value} {xs:List α} {bs:List Nat} (h:Tn E ok w v xs bs) (hR:∀x,ok x->R 0 w (E.f x) x):jc E.sz E.uf R 0 w v xs:=h.1.at (fun x hx=>hR x (h.2.1 x hx)) h.2.2.1
def aai {α:Type} {sz:Nat} (E:Fj Tryz.prog (Raw sz)) (R:cu->List Value->α->List Nat->Prop) (w:cu) (v:Value) (xs:List α) (bs:List Nat):Prop :=
 ∃(css:List (Raw sz)) (subs:List (List Nat)),jq E w 0 v css/\css.length*E.uf<=140737488355328/\Tz (fun c x s=>R w c.1 x s) css xs subs/\bs=zq v++subs.flatten
def alf {α:Type} (R:cu->List Value->α->List Nat->Prop):Prop:=∀w w' cs x bs,R w cs x bs->Fr bs w w'->R w' cs x bs
def auz {α:Type} (Ts:List Nat) (R:cu->List Value->α->List Nat->Prop):Prop:=∀w cs x bs,R w cs x bs->X7 Ts bs w
theorem aai.fr {α:Type} {sz:Nat} {E:Fj Tryz.prog (Raw sz)} {R:cu->List Value->α->List Nat->Prop} (hR:alf R) {w w':cu} {v:Value} {xs:List α} {bs:List Nat} (h:aai E R w v xs bs) (hf:Fr bs w w'):aai E R w' v xs bs:=by
 obtain⟨css,subs,h1,h2,h3,rfl⟩:=h;refine⟨css,subs,h1.Ia (fun b hb=>hf b (List.mem_append_left _ (Bq.2 hb))),h2,h3.mono (fun c x s _ _ hs h9=>hR _ _ _ _ _ h9 (fun b hb=>hf b (List.mem_append_right _ (List.mem_flatten.2 ⟨s,hs,hb⟩)))),rfl⟩
theorem aai.typ {α:Type} {sz:Nat} {E:Fj Tryz.prog (Raw sz)} {R:cu->List Value->α->List Nat->Prop} {Ts:List Nat} (hR:auz Ts R) {w:cu} {v:Value} {xs:List α} {bs:List Nat} (h:aai E R w v xs bs):X7 (E.T::Ts) bs w:=by
 obtain⟨css,subs,h1,h2,h3,rfl⟩:=h;refine X7.app (fun b hb=>?_) (fun b hb=>?_)
 ·obtain⟨cur,hh⟩:=h1.cellT (Bq.1 hb)
  exact⟨cur,E.T,Hr ..,hh⟩
 ·obtain⟨s,hs,hb2⟩:=List.mem_flatten.1 hb
  obtain⟨i,hi,rfl⟩:=List.mem_iff_getElem.1 hs;have hl:=h3.len;obtain⟨cur,T,hT,hh⟩:=hR _ _ _ _ (h3.get i (by omega) (by omega) hi) b hb2;exact⟨cur,T,Gu _ hT,hh⟩
def ba2 {sz:Nat} (_:Nat) (_:cu) (cs:List Value) (c:Raw sz):Prop:=cs=c.1
theorem jc.ofRaw {α:Type} {sz uf lo:Nat} {R:Nat->cu->List Value->α->Prop} {w:cu} {v:Value} {css:List (Raw sz)} {xs:List α} (h:jc sz uf ba2 lo w v css) (hl:css.length=xs.length) (hR:∀i (h1:i<css.length) (h2:i<xs.length),R lo w css[i].1 xs[i]):jc sz uf R lo w v xs:=by
 obtain⟨a,cap,rfl,h1,h2,h3⟩:=h;rw[hl] at h1 h2;refine⟨a,cap,by rw[hl],h1,h2,fun i hi=>?_⟩;obtain⟨b,o,cs,e1,e2,e3,e4,e5,e6⟩:=h3 i (by omega);have e7:cs=css[i].1:=e6;exact⟨b,o,cs,e1,e2,e3,e4,e5,by rw[e7];exact hR i (by omega) hi⟩
theorem aai.sl {α:Type} {sz:Nat} {E:Fj Tryz.prog (Raw sz)} {R:cu->List Value->α->List Nat->Prop} {S:Nat->cu->List Value->α->Prop} (hE:E.sz=sz) (hf:∀c,E.f c=c.1) {w:cu} (hS:∀cs x bs,R w cs x bs->S 0 w cs x) {v:Value} {xs:List α} {bs:List Nat} (h:aai E R w v xs bs):jc sz E.uf S 0 w v xs:=by
 obtain⟨css,subs,h1,h2,h3,rfl⟩:=h;have h9:jc E.sz E.uf ba2 0 w v css:=h1.at (fun c _=>hf c) h2;rw[hE] at h9;have hl:=h3.len;exact h9.ofRaw hl.1 (fun i g1 g2=>hS _ _ _ (h3.get i g1 g2 (by omega)))
def okS (s:dh):Prop:=Len s.size
def okI (t:l9):Prop:=Len t.name.size/\I64 t.op/\I64 t.val
def ade (t:jw):Prop:=Len t.name.size/\I64 t.type
def ads (w:cu) (cs:List Value) (l:List l9) (bs:List Nat):Prop:=∃v,cs=[v]/\Tn Gp okI w v l bs
def Y4 (w:cu) (cs:List Value) (t:lu) (bs:List Nat):Prop:=∃o c a b1 b2 b3,cs=[.int .i64 t.kind,.string t.name,.int .i64 t.at_,o,c,a]/\Len t.name.size/\I64 t.kind/\I64 t.at_/\Tn ny okS w o t.au b1/\Tn Gp okI w c t.code b2/\aai an7 ads w a t.args b3/\bs=b1++b2++b3
def Ci (w:cu) (cs:List Value) (k:dw) (bs:List Nat):Prop:=∃v1 v2 v3 v4 v5 v6 b1 b2 b3 b4 b5 b6,cs=[.string k.name,v1,v2,v3,v4,v5,v6]/\Len k.name.size/\Tn F5 ade w v1 k.ins b1/\Tn F5 ade w v2 k.au b2/\Tn ny okS w v3 k.iw b3/\Tn Xv I64 w v4 k.gq b4/\Tn Xv I64 w v5 k.ay b5/\aai abq Y4 w v6 k.body b6/\bs=b1++b2++b3++b4++b5++b6
theorem Yh:alf ads:=fun _ _ _ _ _ ⟨v,h1,h2⟩ hf=>⟨v,h1,h2.fr hf⟩
theorem Qs:alf Y4:=fun _ _ _ _ _ ⟨o,c,a,b1,b2,b3,h1,h2,h3,h4,h5,h6,h7,h8⟩ hf=>by
 subst h8;exact⟨o,c,a,b1,b2,b3,h1,h2,h3,h4,h5.fr hf.left.left,h6.fr hf.left.right,h7.fr Yh hf.right,rfl⟩
theorem Iy:alf Ci:=fun _ _ _ _ _ ⟨v1,v2,v3,v4,v5,v6,b1,b2,b3,b4,b5,b6,h0,hn,h1,h2,h3,h4,h5,h6,h8⟩ hf=>by
 subst h8;exact⟨v1,v2,v3,v4,v5,v6,b1,b2,b3,b4,b5,b6,h0,hn,h1.fr hf.left.left.left.left.left,h2.fr hf.left.left.left.left.right,h3.fr hf.left.left.left.right,h4.fr hf.left.left.right,h5.fr hf.left.right,h6.fr Qs hf.right,rfl⟩
def a3q:List Nat:=[9,83,56]
def am7:List Nat:=[54,9,3,60,83,56]
theorem aly:auz [83] ads:=fun _ _ _ _ ⟨v,_,h2⟩=>h2.typ
theorem ahi:auz a3q Y4:=fun _ _ _ _ ⟨o,c,a,b1,b2,b3,h1,h2,h3,h4,h5,h6,h7,h8⟩=>by
 subst h8
 exact((h5.typ.wide (fun t ht=>by rw[yt] at ht;rw[ht];decide)).app (h6.typ.wide (fun t ht=>by rw[yt] at ht;rw[ht];decide))).app ((h7.typ aly).wide (fun t ht=>by
  rcases qj.1 ht with rfl|h9
  ·decide
  ·rw[yt] at h9;rw[h9];decide))
theorem avs:auz am7 Ci:=fun _ _ _ _ ⟨v1,v2,v3,v4,v5,v6,b1,b2,b3,b4,b5,b6,h0,hn,h1,h2,h3,h4,h5,h6,h8⟩=>by
 subst h8;have one:∀{T:Nat} {bs:List Nat} {w:cu},X7 [T] bs w->T∈am7->X7 am7 bs w:=fun h hT=>h.wide (fun t ht=>by rw[yt] at ht;rw[ht];exact hT)
 refine(((((one h1.typ (by decide)).app (one h2.typ (by decide))).app (one h3.typ (by decide))).app (one h4.typ (by decide))).app (one h5.typ (by decide))).app ((h6.typ ahi).wide (fun t ht=>?_));rcases qj.1 ht with rfl|h9
 ·decide
 ·unfold a3q at h9
  unfold am7;simp only[qj,xq,xu] at h9 ⊢;omega
theorem ax9 {w:cu} {cs:List Value} {l:List l9} {bs:List Nat} (h:ads w cs l bs):Ih 0 w cs l:=by
 obtain⟨v,h1,h2⟩:=h;exact⟨v,h1,h2.sl (fun x hx=>⟨rfl,hx.1,hx.2.1,hx.2.2⟩)⟩
theorem a6j {w:cu} {cs:List Value} {t:lu} {bs:List Nat} (h:Y4 w cs t bs):Zq 0 w cs t:=by
 obtain⟨o,c,a,b1,b2,b3,h1,h2,h3,h4,h5,h6,h7,h8⟩:=h;exact⟨o,c,a,h1,h2,h3,h4,h5.sl (fun x hx=>⟨rfl,hx⟩),h6.sl (fun x hx=>⟨rfl,hx.1,hx.2.1,hx.2.2⟩),h7.sl rfl (fun _=>rfl) (fun cs x bs h=>ax9 h)⟩
theorem avr {w:cu} {cs:List Value} {k:dw} {bs:List Nat} (h:Ci w cs k bs):C9 0 w cs k:=by
 obtain⟨v1,v2,v3,v4,v5,v6,b1,b2,b3,b4,b5,b6,h0,hn,h1,h2,h3,h4,h5,h6,h8⟩:=h;exact⟨v1,v2,v3,v4,v5,v6,h0,hn,h1.sl (fun x hx=>⟨rfl,hx.1,hx.2⟩),h2.sl (fun x hx=>⟨rfl,hx.1,hx.2⟩),h3.sl (fun x hx=>⟨rfl,hx⟩),h4.sl (fun x hx=>⟨rfl,hx⟩),h5.sl (fun x hx=>⟨rfl,hx⟩),h6.sl rfl (fun _=>rfl) (fun cs x bs h=>a6j h)⟩
theorem jq.afg {P:Program} {α:Type} {E:Fj P α} {w:cu} {base:Nat} {v:Value} {xs:List α} (h:jq E w base v xs):(∃a cap,v=.slice a 0 cap/\xs=[])\/∃g cap,v=.slice (some ⟨g,0,none⟩) xs.length cap/\∀i (hi:i<xs.length) j (hj:j<(E.f xs[i]).length),w.cell? ⟨g,i*E.sz+j,none⟩=some (E.f xs[i])[j]/\w.frozen? ⟨g,i*E.sz+j,none⟩=false:=by
 have h':=h;rcases h.shape with ⟨rfl,rfl⟩|⟨g,cap,rfl,hb,hlt,hcap⟩
 ·exact Or.inl ⟨_,_,rfl,rfl⟩
 ·refine Or.inr ⟨g,cap,rfl,fun i hi j hj=>⟨?_,?_⟩⟩
  ·have hjs:j<E.sz:=by rw[←E.hf xs[i]];exact hj
   have:=World.ownsRow.cells h' (g:=g) rfl (i*E.sz+j) (E.f xs[i])[j] (by rw[flat_get E.f E.sz E.hf xs i hi j hjs];simp[hj]);rw[Addr.add_lit] at this;simpa using this
  ·obtain⟨cur,hh⟩:=h'.cellT (g:=g) rfl
   simp[World.frozen?,hh]
theorem bay {w:cu} {g:Nat} {e:TypeId} {cs:Array Value} (h:jd w g e cs) (o:Obj):jd (w.alloc o) g e cs:=h.below ((iq _ _).alloc (gu _) _) h.lt
theorem aa2 {w:cu} {g:Nat} {e:TypeId} {cs:Array Value} (h:g=w.heap.size):jd (w.alloc (.cells cs e)) g e cs:=by subst h;exact oh w _ _
theorem Zl {w:cu} {B:Nat} {v:Value} {cs:List (Raw 7)} (h:jq Et w B v cs) (i:Nat) (hi:i<cs.length):∃g cap,v=.slice (some ⟨g,0,none⟩) cs.length cap/\(∀k u,cs[i].1[k]?=some u->w.cell? ⟨g,i*7+k,none⟩=some u):=by
 rcases h.afg with ⟨_,_,hh1,hh2⟩|⟨g',cap',hh1,hh2⟩
 ·rw[hh2] at hi;exact absurd hi (yu _)
 ·refine⟨g',cap',hh1,fun k u hu=>?_⟩
  obtain⟨hk,hku⟩:=List.getElem?_eq_some_iff.1 hu;have h9:=(hh2 i hi k hk).1;have e9:(Et.f cs[i])=cs[i].1:=rfl;simp only[e9] at h9;rw[hku] at h9;exact h9
def bci:Go.Shelf.Ren:=⟨fun|25=>89|n=>n,fun|0=>0|3=>3|4=>4|5=>5|9=>9|37=>64|47=>101|n=>n,fun|n=>n⟩
theorem ba3:LaysPu.n25 Tryz.prog bci:={
 mixed:=by kernel_rfl
 f25:=Tryz.func89.trans (ni some (by kernel_rfl))
 t0:=Tryz.underlying0
 a0:=Tryz.isAgg0
 z0:=Tryz.sizeOf0
 v0:=Tryz.zeroValue0
 i0:=by kernel_rfl
 t3:=Tryz.underlying3
 a3:=Tryz.isAgg3
 z3:=Tryz.sizeOf3
 v3:=Tryz.zeroValue3
 i3:=by kernel_rfl
 t4:=Tryz.underlying4
 a4:=Tryz.isAgg4
 z4:=Tryz.sizeOf4
 v4:=Tryz.zeroValue4
 i4:=by kernel_rfl
 t5:=Tryz.underlying5
 a5:=Tryz.isAgg5
 z5:=Tryz.sizeOf5
 v5:=Tryz.zeroValue5
 i5:=by kernel_rfl
 t9:=Tryz.underlying9
 a9:=Tryz.isAgg9
 z9:=Tryz.sizeOf9
 v9:=Tryz.zeroValue9
 i9:=by kernel_rfl
 t37:=Tryz.underlying64
 a37:=Tryz.isAgg64
 z37:=Tryz.sizeOf64
 v37:=Tryz.zeroValue64
 i37:=by kernel_rfl
 t47:=Tryz.underlying101
 a47:=Tryz.isAgg101
 z47:=Tryz.sizeOf101
 v47:=Tryz.zeroValue101
 i47:=by kernel_rfl }
theorem au0 (s:dh) (w:cu) (h:Len s.size):Calls Tryz.prog 89 #[.string s] w (Ans (.string s) w):=by
 have h9:=AnyPu.stringslite_Clone ba3 s w (by unfold Len at h;omega);exact h9
theorem apo (s:dh) (w:cu) (h:Len s.size):Calls Tryz.prog 58 #[.string s] w (Ans (.string s) w):=by
 have HC:=ak (au0 s w h);clear h;go_enter Tryz.func58,Tryz.ntmps58;go_wp2_with fail;refine(uh HC).mono ?_;rintro e w1 ⟨rfl,hb⟩;have HB:=ak hb;clear hb;go_wp2;go_ret;exact⟨rfl,uh HB⟩
def Kind2 (v v':Value):Prop:=v'=v\/(∃x y,v=.int .i64 x/\v'=.int .i64 y)\/(∃s t,v=.string s/\v'=.string t)\/(∃s t,v=.bool s/\v'=.bool t)
theorem Kind2.refl (v:Value):Kind2 v v:=Or.inl rfl
theorem Kind2.int {x:Int} {v':Value} (h:Kind2 (.int .i64 x) v'):∃y,v'=.int .i64 y:=by
 rcases h with h|⟨_,y,_,h⟩|⟨s,_,h,_⟩|⟨s,_,h,_⟩
 ·exact⟨x,h⟩
 ·exact⟨y,h⟩
 ·cases h
 ·cases h
theorem Kind2.str {x:dh} {v':Value} (h:Kind2 (.string x) v'):∃y,v'=.string y:=by
 rcases h with h|⟨_,y,h,_⟩|⟨s,t,_,h⟩|⟨s,_,h,_⟩
 ·exact⟨x,h⟩
 ·cases h
 ·exact⟨t,h⟩
 ·cases h
theorem Kind2.boo {x:Bool} {v':Value} (h:Kind2 (.bool x) v'):∃y,v'=.bool y:=by
 rcases h with h|⟨_,y,h,_⟩|⟨s,_,h,_⟩|⟨s,t,_,h⟩
 ·exact⟨x,h⟩
 ·cases h
 ·cases h
 ·exact⟨t,h⟩
theorem Kind2.sl {a:Option Addr} {n c:Nat} {v':Value} (h:Kind2 (.slice a n c) v'):v'=.slice a n c:=by
 rcases h with h|⟨_,y,h,_⟩|⟨s,t,h,_⟩|⟨s,t,h,_⟩
 ·exact h
 ·cases h
 ·cases h
 ·cases h
theorem Kind2.trans {a b c:Value} (h:Kind2 a b) (k:Kind2 b c):Kind2 a c:=by
 rcases h with rfl|⟨x,y,rfl,rfl⟩|⟨s,t,rfl,rfl⟩|⟨s,t,rfl,rfl⟩
 ·exact k
 ·obtain⟨z,rfl⟩:=k.int
  exact Or.inr (Or.inl ⟨_,_,rfl,rfl⟩)
 ·obtain⟨z,rfl⟩:=k.str
  exact Or.inr (Or.inr (Or.inl ⟨_,_,rfl,rfl⟩))
 ·obtain⟨z,rfl⟩:=k.boo
  exact Or.inr (Or.inr (Or.inr ⟨_,_,rfl,rfl⟩))
theorem Kind2.ints (x y:Int):Kind2 (.int .i64 x) (.int .i64 y):=Or.inr (Or.inl ⟨x,y,rfl,rfl⟩)
theorem Kind2.strs (x y:dh):Kind2 (.string x) (.string y):=Or.inr (Or.inr (Or.inl ⟨x,y,rfl,rfl⟩))
theorem au1 (w:cu) (p q:Addr) (u:Value):(w.setCell p u).frozen? q=w.frozen? q:=by
 simp only[World.frozen?,World.setCell,Array.getElem?_modify]
 by_cases h:p.block=q.block
 ·rw[gy h]
  cases w.heap[q.block]? with
  | none=>rfl
  | some o=>cases o<;>rfl
 ·rw[bf h]
theorem afk (w:cu) (b o:Nat) (u v:Value) (h:w.cell? ⟨b,o,none⟩=some v):(w.setCell ⟨b,o,none⟩ u).cell? ⟨b,o,none⟩=some u:=by
 simp only[World.cell?,World.setCell,Array.getElem?_modify,if_true] at *
 cases hh:w.heap[b]? with
 | none=>rw[hh] at h;simp at h
 | some x =>
  cases x with
  | cells c t f =>
   rw[hh] at h;simp at h;have hl:o<c.size:=(Kv.1 h).1;simp[hl]
  | _=>rw[hh] at h;simp at h
structure Mk (lo hi:Nat) (w w':cu):Prop where
 os:w'.os=w.os
 tape:w'.tape=w.tape
 output:w'.output=w.output
 size:w.heap.size<=w'.heap.size
 out:∀k,k<w.heap.size->(k<lo\/hi<=k)->w'.heap[k]?=w.heap[k]?
 cells:∀b o v,lo<=b->b<hi->w.cell? ⟨b,o,none⟩=some v->∃v',w'.cell? ⟨b,o,none⟩=some v'/\Kind2 v v'
 frz:∀b o,lo<=b->b<hi->w'.frozen? ⟨b,o,none⟩=w.frozen? ⟨b,o,none⟩
theorem Mk.refl (lo hi:Nat) (w:cu):Mk lo hi w w:=⟨rfl,rfl,rfl,gu _,fun _ _ _=>rfl,fun _ _ v _ _ h=>⟨v,h,Kind2.refl v⟩,fun _ _ _ _=>rfl⟩
theorem Mk.trans {lo hi:Nat} {a b c:cu} (h:Mk lo hi a b) (k:Mk lo hi b c):Mk lo hi a c :=
 ⟨k.os.trans h.os,k.tape.trans h.tape,k.output.trans h.output,ku h.size k.size,fun i hi ho=>(k.out i (qg hi h.size) ho).trans (h.out i hi ho),fun bb o v h1 h2 h3=>by
  obtain⟨v1,h4,h5⟩:=h.cells bb o v h1 h2 h3;obtain⟨v2,h6,h7⟩:=k.cells bb o v1 h1 h2 h4;exact⟨v2,h6,h5.trans h7⟩,fun bb o h1 h2=>(k.frz bb o h1 h2).trans (h.frz bb o h1 h2)⟩
theorem Mk.of_below {lo hi:Nat} {w w':cu} (h:Below w.heap.size w w') (hh:hi<=w.heap.size):Mk lo hi w w' :=
 ⟨h.os,h.tape,h.output,h.size,fun k hk _=>h.block k hk,fun b o v _ h2 h3=>⟨v,(h.cell (p:=⟨b,o,none⟩) (show b<_ by omega)).trans h3,Kind2.refl v⟩,fun b o _ h2=>h.frozen (p:=⟨b,o,none⟩) (show b<_ by omega)⟩
theorem Mk.setCell {lo hi:Nat} {w w':cu} (h:Mk lo hi w w') {b o:Nat} {v u:Value} (h1:lo<=b) (h2:b<hi) (hc:w'.cell? ⟨b,o,none⟩=some v) (hk:Kind2 v u):Mk lo hi w (w'.setCell ⟨b,o,none⟩ u):=by
 refine h.trans ⟨rfl,rfl,rfl,by simp[World.setCell],fun k hk ho=>zf _ _ _ _ (by simp only;omega),fun b' o' v' h3 h4 h5=>?_,fun b' o' _ _=>au1 _ _ _ _⟩
 by_cases e:b'=b/\o'=o
 ·obtain⟨rfl,rfl⟩:=e
  rw[hc] at h5;obtain rfl:v=v':=by simpa using h5
  exact⟨u,afk _ _ _ _ _ hc,hk⟩
 ·exact⟨v',(Ky _ _ _ _ _ (by simp only;omega)).trans h5,Kind2.refl _⟩
theorem Mk.below {lo hi:Nat} {w w':cu} (h:Mk lo hi w w') (hl:lo<=w.heap.size):Below lo w w':=⟨h.os,h.tape,h.output,h.size,fun k hk=>h.out k (by omega) (Or.inl hk)⟩
theorem au2 (sz:Nat) (P:Nat->Value->Prop) (h:∀j,j<sz->∃v,P j v):∃cs:List Value,cs.length=sz/\∀j (hj:j<cs.length),P j cs[j]:=by
 induction sz with
 | zero=>exact⟨[],rfl,fun j hj=>absurd hj (yu _)⟩
 | succ n ih =>
  obtain⟨cs,hl,hc⟩:=ih (fun j hj=>h j (by omega));obtain⟨v,hv⟩:=h n (by omega);refine⟨cs++[v],by simp[hl],fun j hj=>?_⟩
  by_cases e:j<cs.length
  ·rw[Qx e]
   exact hc j e
  ·have e2:j=cs.length:=by simp at hj;omega
   subst e2;rw[List.getElem_append_right (gu _)];simp only[Nat.sub_self,og];rw[hl];exact hv
theorem apt {cs':List Value} {a:Value} (h:cs'.length=[a].length) (hk:∀j (h:j<[a].length) (h':j<cs'.length),Kind2 [a][j] cs'[j]):∃a',cs'=[a']/\Kind2 a a':=by
 match cs',h with
 | [a'],_=>exact⟨a',rfl,hk 0 (by simp) (by simp)⟩
theorem ba4 {cs':List Value} {a b:Value} (h:cs'.length=[a,b].length) (hk:∀j (h:j<[a,b].length) (h':j<cs'.length),Kind2 [a,b][j] cs'[j]):∃a' b',cs'=[a',b']/\Kind2 a a'/\Kind2 b b':=by
 match cs',h with
 | [a',b'],_=>exact⟨a',b',rfl,hk 0 (by simp) (by simp),hk 1 (by simp) (by simp)⟩
theorem ba5 {cs':List Value} {a b c:Value} (h:cs'.length=[a,b,c].length) (hk:∀j (h:j<[a,b,c].length) (h':j<cs'.length),Kind2 [a,b,c][j] cs'[j]):∃a' b' c',cs'=[a',b',c']/\Kind2 a a'/\Kind2 b b'/\Kind2 c c':=by
 match cs',h with
 | [a',b',c'],_=>exact⟨a',b',c',rfl,hk 0 (by simp) (by simp),hk 1 (by simp) (by simp),hk 2 (by simp) (by simp)⟩
theorem ba6 {cs':List Value} {a b c d e f:Value} (h:cs'.length=[a,b,c,d,e,f].length) (hk:∀j (h:j<[a,b,c,d,e,f].length) (h':j<cs'.length),Kind2 [a,b,c,d,e,f][j] cs'[j]):∃a' b' c' d' e' f',cs'=[a',b',c',d',e',f']/\Kind2 a a'/\Kind2 b b'/\Kind2 c c'/\Kind2 d d'/\Kind2 e e'/\Kind2 f f':=by
 match cs',h with
 | [a',b',c',d',e',f'],_=>exact⟨a',b',c',d',e',f',rfl,hk 0 (by simp) (by simp),hk 1 (by simp) (by simp),hk 2 (by simp) (by simp),hk 3 (by simp) (by simp),hk 4 (by simp) (by simp),hk 5 (by simp) (by simp)⟩
theorem ba7 {cs':List Value} {a b c d e f g:Value} (h:cs'.length=[a,b,c,d,e,f,g].length) (hk:∀j (h:j<[a,b,c,d,e,f,g].length) (h':j<cs'.length),Kind2 [a,b,c,d,e,f,g][j] cs'[j]):∃a' b' c' d' e' f' g',cs'=[a',b',c',d',e',f',g']/\Kind2 a a'/\Kind2 b b'/\Kind2 c c'/\Kind2 d d'/\Kind2 e e'/\Kind2 f f'/\Kind2 g g':=by
 match cs',h with
 | [a',b',c',d',e',f',g'],_=>exact⟨a',b',c',d',e',f',g',rfl,hk 0 (by simp) (by simp),hk 1 (by simp) (by simp),hk 2 (by simp) (by simp),hk 3 (by simp) (by simp),hk 4 (by simp) (by simp),hk 5 (by simp) (by simp),hk 6 (by simp) (by simp)⟩
def mStr (_:dh):Nat:=1
def akw (_:Int):Nat:=1
def aju (_:l9):Nat:=3
def ajw (l:List l9):Nat:=Vd aju l l.length
theorem Ur {α:Type} (f g:α->Nat) (c:Nat) (hc:∀x,f x<=c*(1+g x)) (xs:List α):Vd f xs xs.length<=c*pz g xs:=by
 unfold Vd pz;rw[Dw]
 induction xs with
 | nil=>simp
 | cons x xs ih =>
  have h1:=hc x;simp only[Ai,List.sum_cons,ug];rw[show xs.length+1+(g x+(xs.map g).sum)=(1+g x)+(xs.length+(xs.map g).sum) from by omega,Nat.mul_add];omega
theorem arx (xs:List dh):Vd mStr xs xs.length<=8*pz Qp xs:=Ur _ _ _ (fun x=>by unfold mStr;omega) xs
theorem apu (xs:List l9):Vd aju xs xs.length<=8*pz Gh xs:=Ur _ _ _ (fun x=>by unfold aju;omega) xs
theorem aya (xs:List (List l9)):Vd ajw xs xs.length<=8*pz (pz Gh) xs:=Ur _ _ _ (fun x=>by have:=apu x;unfold ajw;omega) xs
theorem arz (xs:List Int):Vd akw xs xs.length<=xs.length:=by
 have h:=Ur akw (fun _=>0) 1 (fun x=>by unfold akw;omega) xs
 have e:pz (fun _:Int=>0) xs=xs.length:=by
  unfold pz
  have h9:∀l:List Int,(l.map (fun _:Int=>0)).sum=0:=by
   intro l
   induction l with
   | nil=>rfl
   | cons x l ih=>simpa using ih
  rw[h9];omega
 omega
def ajv (_:jw):Nat:=2
def aos (t:lu):Nat:=3+Vd mStr t.au t.au.length+Vd aju t.code t.code.length+Vd ajw t.args t.args.length
def af8 (k:dw):Nat:=1+Vd ajv k.ins k.ins.length+Vd ajv k.au k.au.length+Vd mStr k.iw k.iw.length+Vd akw k.gq k.gq.length+Vd akw k.ay k.ay.length+Vd aos k.body k.body.length
theorem apv (xs:List jw):Vd ajv xs xs.length<=8*pz Uh xs:=Ur _ _ _ (fun x=>by unfold ajv;omega) xs
theorem a6k (xs:List lu):Vd aos xs xs.length<=8*pz Nr xs:=Ur _ _ _ (fun x=>by
 have h1:=arx x.au;have h2:=apu x.code;have h3:=aya x.args;unfold aos Nr;omega) xs
theorem awx (xs:List dw):Vd af8 xs xs.length<=8*pz qy xs:=Ur _ _ _ (fun x=>by
 have h1:=apv x.ins;have h2:=apv x.au;have h3:=arx x.iw;have h4:=arz x.gq;have h5:=arz x.ay;have h6:=a6k x.body;unfold af8 qy;omega) xs
theorem bcj (w:cu) (d:Int):(convert 64 9 (.slice (some ⟨w.heap.size,0,none⟩) 1 1)).run Tryz.prog (w.alloc (.cells #[.int .u8 d] 5))=.ok (.string (ByteArray.empty.push (UInt8.ofNat d.toNat))) (w.alloc (.cells #[.int .u8 d] 5)):=by
 rw[run_convert_bytes_string _ _ _ _ _ _ _ Tryz.underlying64 Tryz.underlying5 Tryz.underlying9];refine run_bytesToString _ _ _ _ [d] ?_;simp[loadCells,go_sem]
def dgB (n:Nat):dh:=ByteArray.empty.push (48+UInt8.ofNat (n % 10))
def mtF:Nat->Nat->ByteArray->ByteArray
 | 0,_,s=>s
 | f+1,n,s=>if n=0 then s else mtF f (n / 10) (dgB n++s)
theorem mtF_more:∀ (f g n:Nat) (s:ByteArray),n<=f->n<=g->mtF f n s=mtF g n s
 | 0,0,_,_,_,_=>rfl
 | 0,g+1,n,s,h,_=>by rw [mtF,mtF,if_pos (by omega)]
 | f+1,0,n,s,_,h=>by rw [mtF,mtF,if_pos (by omega)]
 | f+1,g+1,n,s,h1,h2=>by
  rw [mtF,mtF]
  by_cases h:n=0
  · rw [if_pos h,if_pos h]
  · rw [if_neg h,if_neg h,mtF_more f g _ _ (by omega) (by omega)]
def mtB (n:Nat) (s:ByteArray):ByteArray:=mtF n n s
theorem mtB_eq (n:Nat) (s:ByteArray):mtB n s=if n=0 then s else mtB (n / 10) (dgB n++s):=by
 unfold mtB
 cases n with
 | zero=>rfl
 | succ n=>rw [mtF,if_neg (by omega),if_neg (by omega),mtF_more n _ _ _ (by omega) (Nat.le_refl _)]
def Gy (k:Nat):dh:=if k=0 then ⟨#[109,48]⟩ else ⟨#[109]⟩++mtB k ByteArray.empty
theorem aqp (k:Nat) (w:cu) (hk:k<=4611686018427387904):Calls Tryz.prog 41 #[.int .i64 (k:Int)] w (Ans (.string (Gy k)) w):=by
 have hcv:=bcj
 by_cases h0:k=0
 ·subst h0
  go_enter Tryz.func41,Tryz.ntmps41;go_wp2;go_ret;exact⟨rfl,iq _ _⟩
 have e0:decide ((k:Int)<=0)=false:=iy (by omega)
 have HMT:Hid (Gy k=⟨#[109]⟩++mtB k ByteArray.empty):=by
  refine ak ?_;unfold Gy;rw[bf h0]
 generalize Gy k=R at *;go_enter Tryz.func41,Tryz.ntmps41;go_wp2
 go_loopg [0,3] k (fun g kk o wr=>∃(n:Nat) (s:dh),n<=k/\g=n/\kk=.int .i64 (n:Int)/\o=.string s/\Hid (mtB n s=mtB k ByteArray.empty)/\s.size+n<=k/\Below w.heap.size w wr)
 case atStart=>exact⟨k,_,gu _,rfl,rfl,rfl,rfl,(by show 0+k<=k;omega),iq _ _⟩
 case round =>
  obtain⟨n,s,hn,hg,rfl,rfl,hm,hsz,hbl⟩:=hrel;have HG:=ak hg;have Ae:=ak hbl;have hs:=hbl.size;clear hg hbl
  by_cases hz:n=0
  ·have HE:Hid (s=mtB k ByteArray.empty):=by
    refine ak ?_;have h9:=uh hm;rw[hz] at h9;rw[←h9];rfl
   have f1:decide (0<(n:Int))=false:=iy (by omega);have f2:decide (0<n)=false:=iy (by omega);clear hm hz;go_wp2
   all_goals
    go_ret;refine⟨?_,uh Ae⟩;rw[uh HMT,uh HE];rfl
  ·have f1:decide (0<(n:Int))=true:=jf (by omega)
   have HS:Hid (mtB (n / 10) (ByteArray.empty.push (48+UInt8.ofNat (n % 10))++s)=mtB k ByteArray.empty):=by
    refine ak ?_;rw[←uh hm];rw [mtB_eq n s, if_neg hz];rfl
   clear hm;have HSZ:=ak hsz;go_wp2
   go_roundg (n / 10)
   case measure=>have:=uh HG;omega
   case rel=>exact⟨n / 10,_,by omega,rfl,by go_num,rfl,HS,(by rw[ByteArray.size_append,ByteArray.size_push];have:=uh HSZ;have h3:ByteArray.empty.size=0:=rfl;omega),(uh Ae).alloc hs _⟩
theorem Ls (K:Int) (k:Nat) (w:cu) (hK:K=(k:Int)) (hk:k<=4611686018427387904):Calls Tryz.prog 41 #[.int .i64 K] w (Ans (.string (Gy k)) w):=by
 subst hK;exact aqp k w hk
abbrev Lf:=List (Addr×Bool)
def mkV (t:Bool) (k:Nat):Value:=if t then .string (Gy k) else .int .i64 (k:Int)
def Jd:Nat->Lf->List (Addr×Value)
 | _,[]=>[]
 | k,(a,t)::r=>(a,mkV t k)::Jd (k+1) r
theorem Ik (k:Nat) (a b:Lf):Jd k (a++b)=Jd k a++Jd (k+a.length) b:=by
 induction a generalizing k with
 | nil=>simp[Jd]
 | cons p a ih =>
  obtain⟨x,t⟩:=p;simp only[Ew,Jd,ug];rw[ih (k+1)];congr 3;omega
def apW (ls:List (Addr×Value)) (a:Addr) (v:Option Value):Option Value:=ls.foldl (fun v p=>if p.1=a then v.map (fun _=>p.2) else v) v
theorem akb (l1 l2:List (Addr×Value)) (a:Addr) (v:Option Value):apW (l1++l2) a v=apW l2 a (apW l1 a v):=Ju ..
theorem a2u (ls:List (Addr×Value)) (a:Addr) (v:Option Value) (h:∀p,p∈ls->p.1≠a):apW ls a v=v:=by
 induction ls generalizing v with
 | nil=>rfl
 | cons p ls ih =>
  show apW ls a (if p.1=a then v.map (fun _=>p.2) else v)=v;rw[bf (h p (Hr ..))];exact ih v (fun q hq=>h q (Gu _ hq))
structure X (lo hi:Nat) (ls:List (Addr×Value)) (w w':cu):Prop where
 md:Mk lo hi w w'
 wr:∀b o,b<w.heap.size->w'.cell? ⟨b,o,none⟩=apW ls ⟨b,o,none⟩ (w.cell? ⟨b,o,none⟩)
theorem X.refl (lo hi:Nat) (w:cu):X lo hi [] w w:=⟨Mk.refl lo hi w,fun _ _ _=>rfl⟩
theorem X.trans {lo hi:Nat} {l1 l2:List (Addr×Value)} {a b c:cu} (h:X lo hi l1 a b) (k:X lo hi l2 b c):X lo hi (l1++l2) a c :=
 ⟨h.md.trans k.md,fun x o hx=>by rw[akb,k.wr x o (qg hx h.md.size),h.wr x o hx]⟩
theorem X.of_below {lo hi:Nat} {w w':cu} (h:Below w.heap.size w w') (hh:hi<=w.heap.size):X lo hi [] w w' :=
 ⟨Mk.of_below h hh,fun b o hb=>h.cell (p:=⟨b,o,none⟩) hb⟩
theorem X.then {lo hi:Nat} {ls:List (Addr×Value)} {w w1 w':cu} (h:X lo hi ls w w1) (hb:Below w1.heap.size w1 w') (hh:hi<=w.heap.size):X lo hi ls w w':=by
 have h9:=h.trans (X.of_below hb (ku hh h.md.size));rwa[Aq] at h9
theorem X.setCell {lo hi:Nat} {ls:List (Addr×Value)} {w w':cu} (h:X lo hi ls w w') {b o:Nat} {v u:Value} (h1:lo<=b) (h2:b<hi) (hc:w'.cell? ⟨b,o,none⟩=some v) (hk:Kind2 v u):X lo hi (ls++[(⟨b,o,none⟩,u)]) w (w'.setCell ⟨b,o,none⟩ u):=by
 refine⟨h.md.setCell h1 h2 hc hk,fun b' o' hb=>?_⟩;rw[akb,←h.wr b' o' hb];show _=if (⟨b,o,none⟩:Addr)=⟨b',o',none⟩ then (w'.cell? ⟨b',o',none⟩).map (fun _=>u) else w'.cell? ⟨b',o',none⟩
 by_cases e:b'=b/\o'=o
 ·obtain⟨rfl,rfl⟩:=e
  rw[gy rfl,hc,afk _ _ _ _ _ hc];rfl
 ·rw[bf (fun h9=>e (by injection h9 with e1 e2;exact⟨e1.symm,e2.symm⟩))]
  exact Ky _ _ _ _ _ (by simp only;omega)
theorem X.eq {lo hi:Nat} {l1 l2:List (Addr×Value)} {w w':cu} (h:X lo hi l1 w w') (e:l1=l2):X lo hi l2 w w':=e▸h
theorem X.akv {lo hi:Nat} {ls:List (Addr×Value)} {w w':cu} (h:X lo hi ls w w') {b o:Nat} {y:Int} (h1:lo<=b) (h2:b<hi) (hc:w.cell? ⟨b,o,none⟩=some (.int .i64 y)):∃z,w'.cell? ⟨b,o,none⟩=some (.int .i64 z):=by
 obtain⟨v',h3,h4⟩:=h.md.cells b o _ h1 h2 hc;obtain⟨z,rfl⟩:=h4.int;exact⟨z,h3⟩
theorem X.aol {lo hi:Nat} {ls:List (Addr×Value)} {w w':cu} (h:X lo hi ls w w') {b o:Nat} {y:dh} (h1:lo<=b) (h2:b<hi) (hc:w.cell? ⟨b,o,none⟩=some (.string y)):∃z,w'.cell? ⟨b,o,none⟩=some (.string z):=by
 obtain⟨v',h3,h4⟩:=h.md.cells b o _ h1 h2 hc;obtain⟨z,rfl⟩:=h4.str;exact⟨z,h3⟩
theorem X.csl {lo hi:Nat} {ls:List (Addr×Value)} {w w':cu} (h:X lo hi ls w w') {b o:Nat} {a:Option Addr} {n c:Nat} (h1:lo<=b) (h2:b<hi) (hc:w.cell? ⟨b,o,none⟩=some (.slice a n c)):w'.cell? ⟨b,o,none⟩=some (.slice a n c):=by
 obtain⟨v',h3,h4⟩:=h.md.cells b o _ h1 h2 hc;rw[h4.sl] at h3;exact h3
theorem X.Xo {lo hi:Nat} {ls:List (Addr×Value)} {w w':cu} (h:X lo hi ls w w') {b o:Nat} (h1:lo<=b) (h2:b<hi) (hc:w.frozen? ⟨b,o,none⟩=false):w'.frozen? ⟨b,o,none⟩=false:=(h.md.frz b o h1 h2).trans hc
def ElL {α:Type} (sz:Nat) (R:Nat->Nat->cu->Nat->Nat->List Value->α->Lf->Prop) (lo hi:Nat) (w:cu) (b off:Nat) (x:α) (l:Lf):Prop :=
 lo<=b/\b<hi/\∃cs,cs.length=sz/\(∀j (hj:j<cs.length),w.cell? ⟨b,off+j,none⟩=some cs[j]/\w.frozen? ⟨b,off+j,none⟩=false)/\R lo hi w b off cs x l
def Lc {α:Type} (sz:Nat) (R:Nat->Nat->cu->Nat->Nat->List Value->α->Lf->Prop) (lo hi:Nat) (w:cu) (v:Value) (xs:List α) (l:Lf):Prop :=
 ∃a cap,∃lss:List Lf,v=.slice a xs.length cap/\Len xs.length/\lss.length=xs.length/\l=lss.flatten/\∀i (h:i<xs.length) (h':i<lss.length),∃b o,a=some ⟨b,o,none⟩/\ElL sz R lo hi w b (o+i*sz) xs[i] lss[i]
def aap {α:Type} (R:Nat->Nat->cu->Nat->Nat->List Value->α->Lf->Prop):Prop:=∀lo hi w w' b off cs cs' x l,Mk lo hi w w'->cs'.length=cs.length->(∀j (h:j<cs.length) (h':j<cs'.length),Kind2 cs[j] cs'[j])->R lo hi w b off cs x l->R lo hi w' b off cs' x l
theorem ElL.stays {α:Type} {sz:Nat} {R:Nat->Nat->cu->Nat->Nat->List Value->α->Lf->Prop} (hR:aap R) {lo hi:Nat} {w w':cu} {b off:Nat} {x:α} {l:Lf} (hm:Mk lo hi w w') (h:ElL sz R lo hi w b off x l):ElL sz R lo hi w' b off x l:=by
 obtain⟨h1,h2,cs,hl,hc,hr⟩:=h;refine⟨h1,h2,?_⟩
 obtain⟨cs',hl',hc'⟩:=au2 sz (fun j v=>w'.cell? ⟨b,off+j,none⟩=some v/\∃u,cs[j]?=some u/\Kind2 u v) (fun j hj=>by
  obtain⟨v',h3,h4⟩:=hm.cells b (off+j) _ h1 h2 (hc j (by omega)).1;exact⟨v',h3,_,jy (by omega),h4⟩)
 refine⟨cs',hl',fun j hj=>⟨(hc' j hj).1,?_⟩,hR _ _ _ _ _ _ _ _ _ _ hm (by omega) (fun j h3 h4=>?_) hr⟩
 ·rw[hm.frz b _ h1 h2]
  exact(hc j (by omega)).2
 ·obtain⟨_,u,h5,h6⟩:=hc' j h4
  rw[jy h3] at h5;obtain rfl:cs[j]=u:=by simpa using h5
  exact h6
theorem Lc.stays {α:Type} {sz:Nat} {R:Nat->Nat->cu->Nat->Nat->List Value->α->Lf->Prop} (hR:aap R) {lo hi:Nat} {w w':cu} {v:Value} {xs:List α} {l:Lf} (hm:Mk lo hi w w') (h:Lc sz R lo hi w v xs l):Lc sz R lo hi w' v xs l:=by
 obtain⟨a,cap,lss,h1,h2,h3,h4,h5⟩:=h;refine⟨a,cap,lss,h1,h2,h3,h4,fun i hi hi'=>?_⟩;obtain⟨b,o,h6,h7⟩:=h5 i hi hi';exact⟨b,o,h6,h7.stays hR hm⟩
theorem Lc.shape {α:Type} {sz:Nat} {R:Nat->Nat->cu->Nat->Nat->List Value->α->Lf->Prop} {lo hi:Nat} {w:cu} {v:Value} {xs:List α} {l:Lf} (h:Lc sz R lo hi w v xs l):∃a cap,v=.slice a xs.length cap:=by
 obtain⟨a,cap,lss,h1,_⟩:=h;exact⟨a,cap,h1⟩
theorem Lc.same {α:Type} {sz:Nat} {R:Nat->Nat->cu->Nat->Nat->List Value->α->Lf->Prop} (hR:aap R) {lo hi:Nat} {w w':cu} {v v':Value} {xs:List α} {l:Lf} (hm:Mk lo hi w w') (hk:Kind2 v v') (h:Lc sz R lo hi w v xs l):Lc sz R lo hi w' v' xs l:=by
 have h9:=h.stays hR hm;obtain⟨a,cap,rfl⟩:=h.shape;rw[hk.sl];exact h9
def ae0 (_ _:Nat) (_:cu) (b o:Nat) (cs:List Value) (_:dh) (l:Lf):Prop:=(∃s,cs=[.string s])/\l=[(⟨b,o,none⟩,true)]
def ae1 (_ _:Nat) (_:cu) (b o:Nat) (cs:List Value) (_:Int) (l:Lf):Prop:=(∃x,cs=[.int .i64 x])/\l=[(⟨b,o,none⟩,false)]
def abg (_ _:Nat) (_:cu) (b o:Nat) (cs:List Value) (_:l9) (l:Lf):Prop:=(∃x y s,cs=[.int .i64 x,.int .i64 y,.string s])/\l=[(⟨b,o,none⟩,false),(⟨b,o+1,none⟩,false),(⟨b,o+2,none⟩,true)]
def abx (lo hi:Nat) (w:cu) (_ _:Nat) (cs:List Value) (x:List l9) (l:Lf):Prop:=∃v l0,cs=[v]/\Lc 3 abg lo hi w v x l0/\l=l0
def abh (_ _:Nat) (_:cu) (b o:Nat) (cs:List Value) (_:jw) (l:Lf):Prop:=(∃s x,cs=[.string s,.int .i64 x])/\l=[(⟨b,o,none⟩,true),(⟨b,o+1,none⟩,false)]
def aik (lo hi:Nat) (w:cu) (b o:Nat) (cs:List Value) (t:lu) (l:Lf):Prop:=∃x s y v3 v4 v5 l3 l4 l5,cs=[.int .i64 x,.string s,.int .i64 y,v3,v4,v5]/\Lc 1 ae0 lo hi w v3 t.au l3/\Lc 3 abg lo hi w v4 t.code l4/\Lc 1 abx lo hi w v5 t.args l5/\l=[(⟨b,o,none⟩,false),(⟨b,o+1,none⟩,true),(⟨b,o+2,none⟩,false)]++l3++l4++l5
def aay (lo hi:Nat) (w:cu) (b o:Nat) (cs:List Value) (k:dw) (l:Lf):Prop:=∃s v1 v2 v3 v4 v5 v6 l1 l2 l3 l4 l5 l6,cs=[.string s,v1,v2,v3,v4,v5,v6]/\Lc 2 abh lo hi w v1 k.ins l1/\Lc 2 abh lo hi w v2 k.au l2/\Lc 1 ae0 lo hi w v3 k.iw l3/\Lc 1 ae1 lo hi w v4 k.gq l4/\Lc 1 ae1 lo hi w v5 k.ay l5/\Lc 6 aik lo hi w v6 k.body l6/\l=[(⟨b,o,none⟩,true)]++l1++l2++l3++l4++l5++l6
theorem aaw:aap ae0:=fun _ _ _ _ _ _ _ _ _ _ _ hl hk ⟨⟨s,h⟩,h2⟩=>by
 subst h;obtain⟨a',rfl,h3⟩:=apt hl hk;obtain⟨y,rfl⟩:=h3.str;exact⟨⟨_,rfl⟩,h2⟩
theorem aax:aap ae1:=fun _ _ _ _ _ _ _ _ _ _ _ hl hk ⟨⟨s,h⟩,h2⟩=>by
 subst h;obtain⟨a',rfl,h3⟩:=apt hl hk;obtain⟨y,rfl⟩:=h3.int;exact⟨⟨_,rfl⟩,h2⟩
theorem Zb:aap abg:=fun _ _ _ _ _ _ _ _ _ _ _ hl hk ⟨⟨x,y,s,h⟩,h2⟩=>by
 subst h;obtain⟨a',b',c',rfl,h3,h4,h5⟩:=ba5 hl hk;obtain⟨_,rfl⟩:=h3.int;obtain⟨_,rfl⟩:=h4.int;obtain⟨_,rfl⟩:=h5.str;exact⟨⟨_,_,_,rfl⟩,h2⟩
theorem ac6:aap abx:=fun _ _ _ _ _ _ _ _ _ _ hm hl hk ⟨v,l0,h,h2,h3⟩=>by
 subst h;obtain⟨a',rfl,h4⟩:=apt hl hk;exact⟨_,_,rfl,h2.same Zb hm h4,h3⟩
theorem Zc:aap abh:=fun _ _ _ _ _ _ _ _ _ _ _ hl hk ⟨⟨x,y,h⟩,h2⟩=>by
 subst h;obtain⟨a',b',rfl,h3,h4⟩:=ba4 hl hk;obtain⟨_,rfl⟩:=h3.str;obtain⟨_,rfl⟩:=h4.int;exact⟨⟨_,_,rfl⟩,h2⟩
theorem af7:aap aik:=fun _ _ _ _ _ _ _ _ _ _ hm hl hk ⟨x,s,y,v3,v4,v5,l3,l4,l5,h,g3,g4,g5,h2⟩=>by
 subst h;obtain⟨a',b',c',d',e',f',rfl,h3,h4,h5,h6,h7,h8⟩:=ba6 hl hk;obtain⟨_,rfl⟩:=h3.int;obtain⟨_,rfl⟩:=h4.str;obtain⟨_,rfl⟩:=h5.int;exact⟨_,_,_,_,_,_,_,_,_,rfl,g3.same aaw hm h6,g4.same Zb hm h7,g5.same ac6 hm h8,h2⟩
theorem ac7:aap aay:=fun _ _ _ _ _ _ _ _ _ _ hm hl hk ⟨s,v1,v2,v3,v4,v5,v6,l1,l2,l3,l4,l5,l6,h,g1,g2,g3,g4,g5,g6,h2⟩=>by
 subst h;obtain⟨a',b',c',d',e',f',i',rfl,h3,k1,k2,k3,k4,k5,k6⟩:=ba7 hl hk;obtain⟨_,rfl⟩:=h3.str;exact⟨_,_,_,_,_,_,_,_,_,_,_,_,_,rfl,g1.same Zc hm k1,g2.same Zc hm k2,g3.same aaw hm k3,g4.same aax hm k4,g5.same aax hm k5,g6.same af7 hm k6,h2⟩
theorem Dt (lss:List Lf) (q:Nat) (h:q<lss.length):(lss.take (q+1)).flatten=(lss.take q).flatten++lss[q]:=by
 rw[Eu h,Yw];simp
theorem Oz (lss:List Lf) (q:Nat):(lss.take q).flatten.length<=lss.flatten.length:=by
 have h:=ni (fun z=>(List.flatten z).length) (O8 q lss);simp only[Yw,jh] at h;omega
theorem Md (lss:List Lf) (q:Nat) (h:lss.length<=q):(lss.take q).flatten=lss.flatten:=by rw[P8 h]
def aav (lo hi k r:Nat) (l:Lf) (w:cu) (e:Ending) (w':cu):Prop:=e=.returned (.int .i64 (r:Int))/\X lo hi (Jd k l) w w'
def Held (k:Nat) (l:Lf) (w:cu):Prop:=∀i (h:i<l.length),w.cell? l[i].1=some (mkV l[i].2 (k+i))
theorem Held.left {k:Nat} {a b:Lf} {w:cu} (h:Held k (a++b) w):Held k a w:=fun i hi=>by
 have h9:=h i (by rw[jh];omega);rw[Qx hi] at h9;exact h9
theorem Held.right {k:Nat} {a b:Lf} {w:cu} (h:Held k (a++b) w):Held (k+a.length) b w:=fun i hi=>by
 have h9:=h (a.length+i) (by rw[jh];omega);rw[List.getElem_append_right (by omega)] at h9;simp only[Nat.add_sub_cancel_left] at h9;rw[h9,Nat.add_assoc]
theorem Held.at {k k':Nat} {l:Lf} {w:cu} (h:Held k l w) (e:k=k'):Held k' l w:=e▸h
theorem aac {k kq q:Nat} {lss:List Lf} {w:cu} (h:Held k lss.flatten w) (hq:q<lss.length) (hk:k+(lss.take q).flatten.length=kq):Held kq lss[q] w:=by
 have e:lss.flatten=((lss.take q).flatten++lss[q])++(lss.drop (q+1)).flatten:=by
  rw[←Dt _ _ hq,←Yw,O8]
 rw[e] at h;have h2:=h.left.right;rw[hk] at h2;exact h2
theorem X.held {lo hi k:Nat} {l:Lf} {w w':cu} (h:X lo hi (Jd k l) w w') (hn:(l.map Prod.fst).Nodup) (hc:∀p,p∈l->p.1.spot=none/\p.1.block<w.heap.size/\∃v,w.cell? p.1=some v):Held k l w':=by
 have key:∀(l:Lf) (k:Nat) (a:Addr) (v:Option Value),(l.map Prod.fst).Nodup->v.isSome=true->∀i (h:i<l.length),l[i].1=a->apW (Jd k l) a v=some (mkV l[i].2 (k+i)):=by
  intro l
  induction l with
  | nil=>intro k a v _ _ i h;exact absurd h (yu _)
  | cons p l ih =>
   intro k a v hn hv i hi he;obtain⟨x,t⟩:=p;show apW (Jd (k+1) l) a (if x=a then v.map (fun _=>mkV t k) else v)=_;simp only[Ai,List.nodup_cons] at hn
   cases i with
   | zero =>
    simp only[og] at he ⊢;subst he;rw[gy rfl,a2u]
    ·obtain⟨u,rfl⟩:=Option.isSome_iff_exists.1 hv
     rfl
    ·intro q hq e9
     refine hn.1 ?_;rw[←e9]
     have:∀(l:Lf) (k:Nat) q,q∈Jd k l->q.1∈l.map Prod.fst:=by
      intro l
      induction l with
      | nil=>intro k q hq;cases hq
      | cons p l ih =>
       intro k q hq;rcases qj.1 hq with rfl|h9
       ·exact Hr ..
       ·exact Gu _ (ih _ _ h9)
     exact this l _ q hq
   | succ i =>
    simp only[ou] at he ⊢;have hne:x≠a:=fun e9=>hn.1 (by rw[e9,←he];exact List.mem_map_of_mem (o7 _))
    rw[bf hne,ih (k+1) a v hn.2 hv i (by simpa using hi) he];congr 2;omega
 intro i hi;obtain⟨h1,h2,v,h3⟩:=hc _ (o7 hi);obtain⟨⟨⟨b,o,p⟩,t⟩,hp⟩:∃q,q=l[i]:=⟨_,rfl⟩;rw[←hp] at h1 h2 h3;simp only at h1 h2 h3;subst h1;have h9:=key l k ⟨b,o,none⟩ (w.cell? ⟨b,o,none⟩) hn (by rw[h3];rfl) i hi (by rw[←hp]);rw[show l[i].1=⟨b,o,none⟩ from by rw[←hp],h.wr b o h2,h9]
end Go.Proofs.YtfeejeflmcapoaaGreatDoor
