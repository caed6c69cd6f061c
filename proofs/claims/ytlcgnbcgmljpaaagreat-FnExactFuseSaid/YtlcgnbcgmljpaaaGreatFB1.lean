import Derived.Test.YtlcgnbcgmljpaaaGreatCP7
import Derived.Test.YtlcgnbcgmljpaaaGreatMSz
import Derived.Test.YtlcgnbcgmljpaaaGreatMTo
import Derived.Test.YtlcgnbcgmljpaaaGreatMEq
import Derived.Laws.BytesString
namespace Go.Proofs.YtlcgnbcgmljpaaaGreat
open Go.RowKit
set_option linter.unusedSimpArgs false
set_option linter.unusedVariables false
def uq:wo Tryz.prog (Raw 8):=ahu 165 135 8 152 (.agg #[.int .i64 0,.string ByteArray.empty,.int .i64 0,.slice none 0 0,.slice none 0 0,.slice none 0 0,.slice none 0 0,.slice none 0 0]) Tryz.underlying135 (by kernel_rfl) rfl (by decide) (by decide)
def Au (W0 w:World):BF->List (Raw 8)->List Nat->List Nat->Prop
 | ⟨none⟩,css,fs,ss=>css=[]∧fs=[]∧ss=[]
 | ⟨some (s, a, b, r)⟩,css,fs,ss=>∃(st:List Value) (va vb:Value) (c:Raw 8) (cr ca cb:List (Raw 8)) (fa fb fr s0 sa sb sr:List Nat),css=c::cr∧c.1=st++[va,vb]∧Aa W0 st s s0∧(dw uq w 0 va ca∧Au W0 w a ca fa sa)∧(dw uq w 0 vb cb∧Au W0 w b cb fb sb)∧Au W0 w r cr fr sr∧fs=gu va++fa++(gu vb++fb)++fr∧ss=s0++sa++sb++sr
theorem Au.fr {W0 w w':World} {t:BF}:∀{css:List (Raw 8)} {fs ss:List Nat},Au W0 w t css fs ss->Fr fs w w'->Au W0 w' t css fs ss:=by
 induction t using BF.ind with
 | nil=>intro css fs ss h _;exact h
 | node s a b r iha ihb ihr =>
  intro css fs ss h hf
  obtain⟨st,va,vb,c,cr,ca,cb,fa,fb,fr,s0,sa,sb,sr,h1,h2,h3,⟨h4,h5⟩,⟨h6,h7⟩,h8,rfl,h10⟩:=h
  have g1:Fr (gu va++fa) w w':=hf.left.left
  have g2:Fr (gu vb++fb) w w':=hf.left.right
  exact⟨st,va,vb,c,cr,ca,cb,fa,fb,fr,s0,sa,sb,sr,h1,h2,h3,⟨h4.Ai (fun b hb=>g1.left b (iq.2 hb)),iha h5 g1.right⟩,⟨h6.Ai (fun b hb=>g2.left b (iq.2 hb)),ihb h7 g2.right⟩,ihr h8 hf.right,rfl,h10⟩
theorem Au.lt {W0 w:World} {t:BF}:∀{css:List (Raw 8)} {fs ss:List Nat},Au W0 w t css fs ss->∀b,b∈fs->b<w.heap.size:=by
 induction t using BF.ind with
 | nil=>intro css fs ss h b hb;rw[h.2.1] at hb;cases hb
 | node s a b r iha ihb ihr =>
  intro css fs ss h x hx
  obtain⟨st,va,vb,c,cr,ca,cb,fa,fb,fr,s0,sa,sb,sr,h1,h2,h3,⟨h4,h5⟩,⟨h6,h7⟩,h8,rfl,h10⟩:=h
  rcases List.mem_append.1 hx with g|g
  ·rcases List.mem_append.1 g with g|g
   ·rcases List.mem_append.1 g with g|g
    ·exact(World.ownsRow.lt h4 x (iq.1 g)).2
    ·exact iha h5 x g
   ·rcases List.mem_append.1 g with g|g
    ·exact(World.ownsRow.lt h6 x (iq.1 g)).2
    ·exact ihb h7 x g
  ·exact ihr h8 x g
theorem Au.len {W0 w:World} {t:BF}:∀{css:List (Raw 8)} {fs ss:List Nat},Au W0 w t css fs ss->css.length<=t.flat.length:=by
 induction t using BF.ind with
 | nil=>intro css fs ss h;rw[h.1];exact Nat.zero_le _
 | node s a b r iha ihb ihr =>
  intro css fs ss h
  obtain⟨st,va,vb,c,cr,ca,cb,fa,fb,fr,s0,sa,sb,sr,rfl,h2,h3,_,_,h8,_,_⟩:=h
  have h9:=ihr h8
  rw[jd]
  split
  ·simp only[List.length_cons,List.length_append]
   omega
  ·simp only[List.length_cons]
   omega
theorem Au.app {W0 w:World} {t u:BF}:∀{css cu:List (Raw 8)} {fs fu ss su:List Nat},Au W0 w t css fs ss->Au W0 w u cu fu su->Au W0 w (t.app u) (css++cu) (fs++fu) (ss++su):=by
 induction t using BF.ind with
 | nil =>
  intro css cu fs fu ss su h k
  obtain⟨rfl,rfl,rfl⟩:=h
  exact k
 | node s a b r iha ihb ihr =>
  intro css cu fs fu ss su h k
  obtain⟨st,va,vb,c,cr,ca,cb,fa,fb,fr,s0,sa,sb,sr,rfl,h2,h3,h4,h6,h8,rfl,rfl⟩:=h
  exact⟨st,va,vb,c,cr++cu,ca,cb,fa,fb,fr++fu,s0,sa,sb,sr++su,rfl,h2,h3,h4,h6,ihr h8 k,by simp,by simp⟩
def ax3 (B:Nat) (old new:List Nat):Prop:=∀x,new.count x<=if x<B then old.count x else 1
theorem Jt {l:List Nat}:l.Nodup↔∀x,l.count x<=1:=by
 constructor
 ·intro h x
  induction l with
  | nil=>simp
  | cons a l ih =>
   obtain⟨h1,h2⟩:=List.nodup_cons.1 h
   rw[List.count_cons]
   by_cases c:a=x
   ·subst c
    rw[List.count_eq_zero.2 h1]
    simp
   ·have:(a == x)=false:=by rw[beq_eq_false_iff_ne];exact c
    rw[this]
    have:=ih h2
    simpa using this
 ·intro h
  induction l with
  | nil=>exact List.nodup_nil
  | cons a l ih =>
   refine List.nodup_cons.2 ⟨fun hm=>?_,ih (fun x=>?_)⟩
   ·have h9:=h a
    rw[List.count_cons_self] at h9
    have:=List.count_pos_iff.2 hm
    omega
   ·have h9:=h x
    rw[List.count_cons] at h9
    omega
theorem jr {l:List Nat} {x:Nat}:x∈l↔1<=l.count x:=by
 rw[←List.count_pos_iff]
 exact Iff.rfl
def Kind2 (v v':Value):Prop:=v'=v∨(∃x y,v=.int .i64 x∧v'=.int .i64 y)∨(∃s t,v=.string s∧v'=.string t)∨(∃s t,v=.bool s∧v'=.bool t)
theorem Kind2.refl (v:Value):Kind2 v v:=Or.inl rfl
theorem Kind2.int {x:Int} {v':Value} (h:Kind2 (.int .i64 x) v'):∃y,v'=.int .i64 y:=by
 rcases h with h|⟨_,y,_,h⟩|⟨s,_,h,_⟩|⟨s,_,h,_⟩
 ·exact⟨x,h⟩
 ·exact⟨y,h⟩
 ·cases h
 ·cases h
theorem Kind2.str {x:ByteArray} {v':Value} (h:Kind2 (.string x) v'):∃y,v'=.string y:=by
 rcases h with h|⟨_,y,h,_⟩|⟨s,t,_,h⟩|⟨s,_,h,_⟩
 ·exact⟨x,h⟩
 ·cases h
 ·exact⟨t,h⟩
 ·cases h
theorem Kind2.boo {x:Bool} {v':Value} (h:Kind2 (.bool x) v'):∃y,v'=.bool y:=by
 rcases h with h|⟨_,y,h,_⟩|⟨s,_,h,_⟩|⟨s,t,_,h⟩
 ·exact⟨x,h⟩
 ·cases h
 ·cases h
 ·exact⟨t,h⟩
theorem Kind2.sl {a:Option Addr} {n c:Nat} {v':Value} (h:Kind2 (.slice a n c) v'):v'=.slice a n c:=by
 rcases h with h|⟨_,y,h,_⟩|⟨s,t,h,_⟩|⟨s,t,h,_⟩
 ·exact h
 ·cases h
 ·cases h
 ·cases h
theorem Kind2.trans {a b c:Value} (h:Kind2 a b) (k:Kind2 b c):Kind2 a c:=by
 rcases h with rfl|⟨x,y,rfl,rfl⟩|⟨s,t,rfl,rfl⟩|⟨s,t,rfl,rfl⟩
 ·exact k
 ·obtain⟨z,rfl⟩:=k.int
  exact Or.inr (Or.inl ⟨_,_,rfl,rfl⟩)
 ·obtain⟨z,rfl⟩:=k.str
  exact Or.inr (Or.inr (Or.inl ⟨_,_,rfl,rfl⟩))
 ·obtain⟨z,rfl⟩:=k.boo
  exact Or.inr (Or.inr (Or.inr ⟨_,_,rfl,rfl⟩))
theorem Kind2.ints (x y:Int):Kind2 (.int .i64 x) (.int .i64 y):=Or.inr (Or.inl ⟨x,y,rfl,rfl⟩)
theorem Kind2.strs (x y:ByteArray):Kind2 (.string x) (.string y):=Or.inr (Or.inr (Or.inl ⟨x,y,rfl,rfl⟩))
theorem amn (w:World) (p q:Addr) (u:Value):(w.setCell p u).frozen? q=w.frozen? q:=by
 simp only[World.frozen?,World.setCell,Array.getElem?_modify]
 by_cases h:p.block=q.block
 ·rw[if_pos h]
  cases w.heap[q.block]? with
  | none=>rfl
  | some o=>cases o<;>rfl
 ·rw[if_neg h]
theorem aaq (w:World) (b o:Nat) (u v:Value) (h:w.cell? ⟨b,o,none⟩=some v):(w.setCell ⟨b,o,none⟩ u).cell? ⟨b,o,none⟩=some u:=by
 simp only[World.cell?,World.setCell,Array.getElem?_modify,if_true] at *
 cases hh:w.heap[b]? with
 | none=>rw[hh] at h;simp at h
 | some x =>
  cases x with
  | cells c t f =>
   rw[hh] at h
   simp at h
   have hl:o<c.size:=(Array.getElem?_eq_some_iff.1 h).1
   simp[hl]
  | _=>rw[hh] at h;simp at h
structure Mk (lo hi:Nat) (w w':World):Prop where
 os:w'.os=w.os
 tape:w'.tape=w.tape
 output:w'.output=w.output
 size:w.heap.size<=w'.heap.size
 out:∀k,k<w.heap.size->(k<lo∨hi<=k)->w'.heap[k]?=w.heap[k]?
 cells:∀b o v,lo<=b->b<hi->w.cell? ⟨b,o,none⟩=some v->∃v',w'.cell? ⟨b,o,none⟩=some v'∧Kind2 v v'
 frz:∀b o,lo<=b->b<hi->w'.frozen? ⟨b,o,none⟩=w.frozen? ⟨b,o,none⟩
theorem Mk.refl (lo hi:Nat) (w:World):Mk lo hi w w:=⟨rfl,rfl,rfl,Nat.le_refl _,fun _ _ _=>rfl,fun _ _ v _ _ h=>⟨v,h,Kind2.refl v⟩,fun _ _ _ _=>rfl⟩
theorem Mk.trans {lo hi:Nat} {a b c:World} (h:Mk lo hi a b) (k:Mk lo hi b c):Mk lo hi a c :=
 ⟨k.os.trans h.os,k.tape.trans h.tape,k.output.trans h.output,Nat.le_trans h.size k.size,fun i hi ho=>(k.out i (Nat.lt_of_lt_of_le hi h.size) ho).trans (h.out i hi ho),fun bb o v h1 h2 h3=>by
  obtain⟨v1,h4,h5⟩:=h.cells bb o v h1 h2 h3
  obtain⟨v2,h6,h7⟩:=k.cells bb o v1 h1 h2 h4
  exact⟨v2,h6,h5.trans h7⟩,fun bb o h1 h2=>(k.frz bb o h1 h2).trans (h.frz bb o h1 h2)⟩
theorem Mk.of_below {lo hi:Nat} {w w':World} (h:Below w.heap.size w w') (hh:hi<=w.heap.size):Mk lo hi w w' :=
 ⟨h.os,h.tape,h.output,h.size,fun k hk _=>h.block k hk,fun b o v _ h2 h3=>⟨v,(h.cell (p:=⟨b,o,none⟩) (show b<_ by omega)).trans h3,Kind2.refl v⟩,fun b o _ h2=>h.frozen (p:=⟨b,o,none⟩) (show b<_ by omega)⟩
theorem Mk.then {lo hi:Nat} {w w1 w':World} (h:Mk lo hi w w1) (hb:Below w1.heap.size w1 w') (hh:hi<=w.heap.size):Mk lo hi w w':=h.trans (Mk.of_below hb (Nat.le_trans hh h.size))
theorem Mk.setCell {lo hi:Nat} {w w':World} (h:Mk lo hi w w') {b o:Nat} {v u:Value} (h1:lo<=b) (h2:b<hi) (hc:w'.cell? ⟨b,o,none⟩=some v) (hk:Kind2 v u):Mk lo hi w (w'.setCell ⟨b,o,none⟩ u):=by
 refine h.trans ⟨rfl,rfl,rfl,by simp[World.setCell],fun k hk ho=>Below.heap_setCell _ _ _ _ (by simp only;omega),fun b' o' v' h3 h4 h5=>?_,fun b' o' _ _=>amn _ _ _ _⟩
 by_cases e:b'=b∧o'=o
 ·obtain⟨rfl,rfl⟩:=e
  rw[hc] at h5
  obtain rfl:v=v':=by simpa using h5
  exact⟨u,aaq _ _ _ _ _ hc,hk⟩
 ·exact⟨v',(yw _ _ _ _ _ (by simp only;omega)).trans h5,Kind2.refl _⟩
theorem Mk.below {lo hi:Nat} {w w':World} (h:Mk lo hi w w') (hl:lo<=w.heap.size):Below lo w w':=⟨h.os,h.tape,h.output,h.size,fun k hk=>h.out k (by omega) (Or.inl hk)⟩
def ElK {α:Type} (sz:Nat) (R:Nat->Nat->World->List Value->α->Prop) (lo hi:Nat) (w:World) (b off:Nat) (x:α):Prop :=
 lo<=b∧b<hi∧∃cs,cs.length=sz∧(∀j (hj:j<cs.length),w.cell? ⟨b,off+j,none⟩=some cs[j]∧w.frozen? ⟨b,off+j,none⟩=false)∧R lo hi w cs x
def Dy {α:Type} (sz:Nat) (R:Nat->Nat->World->List Value->α->Prop) (lo hi:Nat) (w:World) (v:Value) (xs:List α):Prop :=
 ∃a cap,v=.slice a xs.length cap∧Len xs.length∧∀i (h:i<xs.length),∃b o,a=some ⟨b,o,none⟩∧ElK sz R lo hi w b (o+i*sz) xs[i]
def Ti {α:Type} (R:Nat->Nat->World->List Value->α->Prop):Prop:=∀lo hi w w' cs cs' x,Mk lo hi w w'->cs'.length=cs.length->(∀j (h:j<cs.length) (h':j<cs'.length),Kind2 cs[j] cs'[j])->R lo hi w cs x->R lo hi w' cs' x
theorem aec (sz:Nat) (P:Nat->Value->Prop) (h:∀j,j<sz->∃v,P j v):∃cs:List Value,cs.length=sz∧∀j (hj:j<cs.length),P j cs[j]:=by
 induction sz with
 | zero=>exact⟨[],rfl,fun j hj=>absurd hj (Nat.not_lt_zero _)⟩
 | succ n ih =>
  obtain⟨cs,hl,hc⟩:=ih (fun j hj=>h j (by omega))
  obtain⟨v,hv⟩:=h n (by omega)
  refine⟨cs++[v],by simp[hl],fun j hj=>?_⟩
  by_cases e:j<cs.length
  ·rw[List.getElem_append_left e]
   exact hc j e
  ·have e2:j=cs.length:=by simp at hj;omega
   subst e2
   rw[List.getElem_append_right (Nat.le_refl _)]
   simp only[Nat.sub_self,List.getElem_cons_zero]
   rw[hl]
   exact hv
theorem ElK.stays {α:Type} {sz:Nat} {R:Nat->Nat->World->List Value->α->Prop} (hR:Ti R) {lo hi:Nat} {w w':World} {b off:Nat} {x:α} (hm:Mk lo hi w w') (h:ElK sz R lo hi w b off x):ElK sz R lo hi w' b off x:=by
 obtain⟨h1,h2,cs,hl,hc,hr⟩:=h
 refine⟨h1,h2,?_⟩
 obtain⟨cs',hl',hc'⟩:=aec sz (fun j v=>w'.cell? ⟨b,off+j,none⟩=some v∧∃u,cs[j]?=some u∧Kind2 u v) (fun j hj=>by
  obtain⟨v',h3,h4⟩:=hm.cells b (off+j) _ h1 h2 (hc j (by omega)).1
  exact⟨v',h3,_,List.getElem?_eq_getElem (by omega),h4⟩)
 refine⟨cs',hl',fun j hj=>⟨(hc' j hj).1,?_⟩,hR _ _ _ _ _ _ _ hm (by omega) (fun j h3 h4=>?_) hr⟩
 ·rw[hm.frz b _ h1 h2]
  exact(hc j (by omega)).2
 ·obtain⟨_,u,h5,h6⟩:=hc' j h4
  rw[List.getElem?_eq_getElem h3] at h5
  obtain rfl:cs[j]=u:=by simpa using h5
  exact h6
theorem Dy.stays {α:Type} {sz:Nat} {R:Nat->Nat->World->List Value->α->Prop} (hR:Ti R) {lo hi:Nat} {w w':World} {v:Value} {xs:List α} (hm:Mk lo hi w w') (h:Dy sz R lo hi w v xs):Dy sz R lo hi w' v xs:=by
 obtain⟨a,cap,h1,h2,h3⟩:=h
 refine⟨a,cap,h1,h2,fun i hi=>?_⟩
 obtain⟨b,o,h4,h5⟩:=h3 i hi
 exact⟨b,o,h4,h5.stays hR hm⟩
theorem Dy.shape {α:Type} {sz:Nat} {R:Nat->Nat->World->List Value->α->Prop} {lo hi:Nat} {w:World} {v:Value} {xs:List α} (h:Dy sz R lo hi w v xs):∃a cap,v=.slice a xs.length cap:=by
 obtain⟨a,cap,h1,_⟩:=h
 exact⟨a,cap,h1⟩
theorem Dy.same {α:Type} {sz:Nat} {R:Nat->Nat->World->List Value->α->Prop} (hR:Ti R) {lo hi:Nat} {w w':World} {v v':Value} {xs:List α} (hm:Mk lo hi w w') (hk:Kind2 v v') (h:Dy sz R lo hi w v xs):Dy sz R lo hi w' v' xs:=by
 have h9:=h.stays hR hm
 obtain⟨a,cap,rfl⟩:=h.shape
 rw[hk.sl]
 exact h9
theorem Yt {cs':List Value} {a:Value} (h:cs'.length=[a].length) (hk:∀j (h:j<[a].length) (h':j<cs'.length),Kind2 [a][j] cs'[j]):∃a',cs'=[a']∧Kind2 a a':=by
 match cs',h with
 | [a'],_=>exact⟨a',rfl,hk 0 (by simp) (by simp)⟩
theorem aps {cs':List Value} {a b:Value} (h:cs'.length=[a,b].length) (hk:∀j (h:j<[a,b].length) (h':j<cs'.length),Kind2 [a,b][j] cs'[j]):∃a' b',cs'=[a',b']∧Kind2 a a'∧Kind2 b b':=by
 match cs',h with
 | [a',b'],_=>exact⟨a',b',rfl,hk 0 (by simp) (by simp),hk 1 (by simp) (by simp)⟩
theorem apt {cs':List Value} {a b c:Value} (h:cs'.length=[a,b,c].length) (hk:∀j (h:j<[a,b,c].length) (h':j<cs'.length),Kind2 [a,b,c][j] cs'[j]):∃a' b' c',cs'=[a',b',c']∧Kind2 a a'∧Kind2 b b'∧Kind2 c c':=by
 match cs',h with
 | [a',b',c'],_=>exact⟨a',b',c',rfl,hk 0 (by simp) (by simp),hk 1 (by simp) (by simp),hk 2 (by simp) (by simp)⟩
theorem apu {cs':List Value} {a b c d e f:Value} (h:cs'.length=[a,b,c,d,e,f].length) (hk:∀j (h:j<[a,b,c,d,e,f].length) (h':j<cs'.length),Kind2 [a,b,c,d,e,f][j] cs'[j]):∃a' b' c' d' e' f',cs'=[a',b',c',d',e',f']∧Kind2 a a'∧Kind2 b b'∧Kind2 c c'∧Kind2 d d'∧Kind2 e e'∧Kind2 f f':=by
 match cs',h with
 | [a',b',c',d',e',f'],_=>exact⟨a',b',c',d',e',f',rfl,hk 0 (by simp) (by simp),hk 1 (by simp) (by simp),hk 2 (by simp) (by simp),hk 3 (by simp) (by simp),hk 4 (by simp) (by simp),hk 5 (by simp) (by simp)⟩
theorem apv {cs':List Value} {a b c d e f g:Value} (h:cs'.length=[a,b,c,d,e,f,g].length) (hk:∀j (h:j<[a,b,c,d,e,f,g].length) (h':j<cs'.length),Kind2 [a,b,c,d,e,f,g][j] cs'[j]):∃a' b' c' d' e' f' g',cs'=[a',b',c',d',e',f',g']∧Kind2 a a'∧Kind2 b b'∧Kind2 c c'∧Kind2 d d'∧Kind2 e e'∧Kind2 f f'∧Kind2 g g':=by
 match cs',h with
 | [a',b',c',d',e',f',g'],_=>exact⟨a',b',c',d',e',f',g',rfl,hk 0 (by simp) (by simp),hk 1 (by simp) (by simp),hk 2 (by simp) (by simp),hk 3 (by simp) (by simp),hk 4 (by simp) (by simp),hk 5 (by simp) (by simp),hk 6 (by simp) (by simp)⟩
def ah7 (_ _:Nat) (_:World) (cs:List Value) (_:ByteArray):Prop:=∃s,cs=[.string s]
def ah8 (_ _:Nat) (_:World) (cs:List Value) (_:Int):Prop:=∃x,cs=[.int .i64 x]
def aed (_ _:Nat) (_:World) (cs:List Value) (_:iw):Prop:=∃x y s,cs=[.int .i64 x,.int .i64 y,.string s]
def aee (lo hi:Nat) (w:World) (cs:List Value) (l:List iw):Prop:=∃v,cs=[v]∧Dy 3 aed lo hi w v l
theorem Lm:Ti ah7:=fun _ _ _ _ _ _ _ _ hl hk ⟨s,h⟩=>by
 subst h
 obtain⟨a',rfl,h1⟩:=Yt hl hk
 obtain⟨y,rfl⟩:=h1.str
 exact⟨y,rfl⟩
theorem Pv:Ti ah8:=fun _ _ _ _ _ _ _ _ hl hk ⟨s,h⟩=>by
 subst h
 obtain⟨a',rfl,h1⟩:=Yt hl hk
 obtain⟨y,rfl⟩:=h1.int
 exact⟨y,rfl⟩
theorem Ju:Ti aed:=fun _ _ _ _ _ _ _ _ hl hk ⟨x,y,s,h⟩=>by
 subst h
 obtain⟨a',b',c',rfl,h1,h2,h3⟩:=apt hl hk
 obtain⟨y1,rfl⟩:=h1.int
 obtain⟨y2,rfl⟩:=h2.int
 obtain⟨y3,rfl⟩:=h3.str
 exact⟨_,_,_,rfl⟩
theorem Tj:Ti aee:=fun _ _ _ _ _ _ _ hm hl hk ⟨v,h,h2⟩=>by
 subst h
 obtain⟨a',rfl,h1⟩:=Yt hl hk
 exact⟨_,rfl,h2.same Ju hm h1⟩
def abd (lo hi:Nat) (w:World):Prop:=∀b o,lo<=b->b<hi->w.frozen? ⟨b,o,none⟩=false
theorem qc.apw {B:Nat} {w w':World} (h:qc B w w'):abd B w'.heap.size w':=fun b o h1 h2=>by
 obtain⟨c,t,h3⟩:=h.free b h1 h2
 simp[World.frozen?,h3]
theorem Dy.of {α:Type} {sz jh:Nat} {R:Nat->World->List Value->α->Prop} {K:Nat->Nat->World->List Value->α->Prop} {lo:Nat} {w:World} (hf:abd lo w.heap.size w) (hK:∀cs x,R lo w cs x->K lo w.heap.size w cs x) {v:Value} {xs:List α} (h:bf sz jh R lo w v xs):Dy sz K lo w.heap.size w v xs:=by
 obtain⟨a,cap,h1,_,h2,h3⟩:=h
 refine⟨a,cap,h1,h2,fun i hi=>?_⟩
 obtain⟨b,o,cs,h4,h5,h6,h7,h8,h9⟩:=h3 i hi
 exact⟨b,o,h4,h5,h6,cs,h7,fun j hj=>⟨h8 j hj,hf b _ h5 h6⟩,hK _ _ h9⟩
theorem alk {lo:Nat} {w:World} (cs:List Value) (x:ByteArray) (h:uz lo w cs x):ah7 lo w.heap.size w cs x:=⟨_,h.1⟩
theorem alm {lo:Nat} {w:World} (cs:List Value) (x:Int) (h:yu lo w cs x):ah8 lo w.heap.size w cs x:=⟨_,h.1⟩
theorem ah9 {lo:Nat} {w:World} (cs:List Value) (x:iw) (h:tu lo w cs x):aed lo w.heap.size w cs x:=⟨_,_,_,h.1⟩
theorem apx {lo:Nat} {w:World} (hf:abd lo w.heap.size w) (cs:List Value) (x:List iw) (h:vw lo w cs x):aee lo w.heap.size w cs x:=by
 obtain⟨v,h1,h2⟩:=h
 exact⟨v,h1,Dy.of hf ah9 h2⟩
def mStr (_:ByteArray):Nat:=1
def Lp (_:Int):Nat:=1
def Ir (_:iw):Nat:=3
def Je (l:List iw):Nat:=qo Ir l l.length
theorem Wj {α:Type} (f:α->Nat) (xs:List α) (k:Nat) (h:k<=xs.length):qo f xs k<=qo f xs xs.length:=by
 obtain⟨d,hd⟩:=Nat.exists_eq_add_of_le h
 have:∀d,k+d<=xs.length->qo f xs k<=qo f xs (k+d):=by
  intro d
  induction d with
  | zero=>intro _;exact Nat.le_refl _
  | succ d ih =>
   intro h2
   have h3:=ih (by omega)
   have h4:=Dx f xs (k+d) (by omega)
   rw[show k+(d+1)=k+d+1 from by omega,h4]
   omega
 have h5:=this d (by omega)
 rw[←hd] at h5
 exact h5
theorem Jv {α:Type} (f g:α->Nat) (c:Nat) (hc:∀x,f x<=c*(1+g x)) (xs:List α):qo f xs xs.length<=c*A8 g xs:=by
 unfold qo A8
 rw[List.take_length]
 induction xs with
 | nil=>simp
 | cons x xs ih =>
  have h1:=hc x
  simp only[List.map_cons,List.sum_cons,List.length_cons]
  rw[show xs.length+1+(g x+(xs.map g).sum)=(1+g x)+(xs.length+(xs.map g).sum) from by omega,Nat.mul_add]
  omega
theorem aln (xs:List ByteArray):qo mStr xs xs.length<=8*A8 ada xs:=Jv _ _ _ (fun x=>by unfold mStr;omega) xs
theorem aia (xs:List iw):qo Ir xs xs.length<=8*A8 Oy xs:=Jv _ _ _ (fun x=>by unfold Ir;omega) xs
theorem apy (xs:List (List iw)):qo Je xs xs.length<=8*A8 (A8 Oy) xs:=Jv _ _ _ (fun x=>by have:=aia x;unfold Je;omega) xs
theorem alo (xs:List Int):qo Lp xs xs.length<=xs.length:=by
 have h:=Jv Lp (fun _=>0) 1 (fun x=>by unfold Lp;omega) xs
 have e:A8 (fun _:Int=>0) xs=xs.length:=by
  unfold A8
  have h9:∀l:List Int,(l.map (fun _:Int=>0)).sum=0:=by
   intro l
   induction l with
   | nil=>rfl
   | cons x l ih=>simpa using ih
  rw[h9]
  omega
 omega
def Wn (lo hi:Nat) (w:World) (r:Nat) (e:Ending) (w':World):Prop:=e=.returned (.int .i64 (r:Int))∧Mk lo hi w w'
def aef (_ _:Nat) (_:World) (cs:List Value) (_:gy):Prop:=∃s x,cs=[.string s,.int .i64 x]
def amo (lo hi:Nat) (w:World) (cs:List Value) (t:dh):Prop:=∃x s y o c a,cs=[.int .i64 x,.string s,.int .i64 y,o,c,a]∧Dy 1 ah7 lo hi w o t.outs∧Dy 3 aed lo hi w c t.code∧Dy 1 aee lo hi w a t.args
def aeg (lo hi:Nat) (w:World) (cs:List Value) (k:ak):Prop:=∃s i o l m n b,cs=[.string s,i,o,l,m,n,b]∧Dy 2 aef lo hi w i k.ins∧Dy 2 aef lo hi w o k.outs∧Dy 1 ah7 lo hi w l k.ay∧Dy 1 ah8 lo hi w m k.aj∧Dy 1 ah8 lo hi w n k.insts∧Dy 6 amo lo hi w b k.body
theorem Jw:Ti aef:=fun _ _ _ _ _ _ _ _ hl hk ⟨x,y,h⟩=>by
 subst h
 obtain⟨a',b',rfl,h1,h2⟩:=aps hl hk
 obtain⟨y1,rfl⟩:=h1.str
 obtain⟨y2,rfl⟩:=h2.int
 exact⟨_,_,rfl⟩
theorem Lr:Ti amo:=fun _ _ _ _ _ _ _ hm hl hk ⟨x,s,y,o,c,a,h,g1,g2,g3⟩=>by
 subst h
 obtain⟨a1,a2,a3,a4,a5,a6,rfl,h1,h2,h3,h4,h5,h6⟩:=apu hl hk
 obtain⟨y1,rfl⟩:=h1.int
 obtain⟨y2,rfl⟩:=h2.str
 obtain⟨y3,rfl⟩:=h3.int
 exact⟨_,_,_,_,_,_,rfl,g1.same Lm hm h4,g2.same Ju hm h5,g3.same Tj hm h6⟩
theorem Dt:Ti aeg:=fun _ _ _ _ _ _ _ hm hl hk ⟨s,i,o,l,m,n,b,h,g1,g2,g3,g4,g5,g6⟩=>by
 subst h
 obtain⟨a1,a2,a3,a4,a5,a6,a7,rfl,h1,h2,h3,h4,h5,h6,h7⟩:=apv hl hk
 obtain⟨y1,rfl⟩:=h1.str
 exact⟨_,_,_,_,_,_,_,rfl,g1.same Jw hm h2,g2.same Jw hm h3,g3.same Lm hm h4,g4.same Pv hm h5,g5.same Pv hm h6,g6.same Lr hm h7⟩
theorem aib {lo:Nat} {w:World} (cs:List Value) (x:gy) (h:xk lo w cs x):aef lo w.heap.size w cs x:=⟨_,_,h.1⟩
theorem awv {lo:Nat} {w:World} (hf:abd lo w.heap.size w) (cs:List Value) (x:dh) (h:Ec lo w cs x):amo lo w.heap.size w cs x:=by
 obtain⟨o,c,a,h1,_,_,_,g1,g2,g3⟩:=h
 exact⟨_,_,_,_,_,_,h1,Dy.of hf alk g1,Dy.of hf ah9 g2,Dy.of hf (apx hf) g3⟩
theorem apz {lo:Nat} {w:World} (hf:abd lo w.heap.size w) (cs:List Value) (x:ak) (h:ni lo w cs x):aeg lo w.heap.size w cs x:=by
 obtain⟨i,o,l,m,n,b,h1,_,g1,g2,g3,g4,g5,g6⟩:=h
 exact⟨_,_,_,_,_,_,_,h1,Dy.of hf aib g1,Dy.of hf aib g2,Dy.of hf alk g3,Dy.of hf alm g4,Dy.of hf alm g5,Dy.of hf (awv hf) g6⟩
def Iu (_:gy):Nat:=2
def O7 (t:dh):Nat:=3+qo mStr t.outs t.outs.length+qo Ir t.code t.code.length+qo Je t.args t.args.length
def Dh (k:ak):Nat:=1+qo Iu k.ins k.ins.length+qo Iu k.outs k.outs.length+qo mStr k.ay k.ay.length+qo Lp k.aj k.aj.length+qo Lp k.insts k.insts.length+qo O7 k.body k.body.length
theorem aic (xs:List gy):qo Iu xs xs.length<=8*A8 Xv xs:=Jv _ _ _ (fun x=>by unfold Iu;omega) xs
theorem aww (xs:List dh):qo O7 xs xs.length<=8*A8 aa0 xs:=Jv _ _ _ (fun x=>by
 have h1:=aln x.outs
 have h2:=aia x.code
 have h3:=apy x.args
 unfold O7 aa0
 omega) xs
theorem agm (xs:List ak):qo Dh xs xs.length<=8*A8 Jc xs:=Jv _ _ _ (fun x=>by
 have h1:=aic x.ins
 have h2:=aic x.outs
 have h3:=aln x.ay
 have h4:=alo x.aj
 have h5:=alo x.insts
 have h6:=aww x.body
 unfold Dh Jc
 omega) xs
theorem a1v (w:World) (d:Int):(convert 105 9 (.slice (some ⟨w.heap.size,0,none⟩) 1 1)).run Tryz.prog (w.alloc (.cells #[.int .u8 d] 5))=.ok (.string (ByteArray.empty.push (UInt8.ofNat d.toNat))) (w.alloc (.cells #[.int .u8 d] 5)):=by
 rw[run_convert_bytes_string _ _ _ _ _ _ _ Tryz.underlying105 Tryz.underlying5 Tryz.underlying9]
 refine run_bytesToString _ _ _ _ [d] ?_
 simp[loadCells,go_sem]
def dgB (n:Nat):ByteArray:=ByteArray.empty.push (48+UInt8.ofNat (n % 10))
def mtF:Nat->Nat->ByteArray->ByteArray
 | 0,_,s=>s
 | f+1,n,s=>if n=0 then s else mtF f (n / 10) (dgB n++s)
theorem mtF_more:∀ (f g n:Nat) (s:ByteArray),n<=f->n<=g->mtF f n s=mtF g n s
 | 0,0,_,_,_,_=>rfl
 | 0,g+1,n,s,h,_=>by rw [mtF,mtF,if_pos (by omega)]
 | f+1,0,n,s,_,h=>by rw [mtF,mtF,if_pos (by omega)]
 | f+1,g+1,n,s,h1,h2=>by
  rw [mtF,mtF]
  by_cases h:n=0
  · rw [if_pos h,if_pos h]
  · rw [if_neg h,if_neg h,mtF_more f g _ _ (by omega) (by omega)]
def mtB (n:Nat) (s:ByteArray):ByteArray:=mtF n n s
theorem mtB_eq (n:Nat) (s:ByteArray):mtB n s=if n=0 then s else mtB (n / 10) (dgB n++s):=by
 unfold mtB
 cases n with
 | zero=>rfl
 | succ n=>rw [mtF,if_neg (by omega),if_neg (by omega),mtF_more n _ _ _ (by omega) (Nat.le_refl _)]
def Ah (k:Nat):ByteArray:=if k=0 then ⟨#[109,48]⟩ else ⟨#[109]⟩++mtB k ByteArray.empty
set_option maxHeartbeats 1000000 in
theorem akq (k:Nat) (w:World) (hk:k<=4611686018427387904):Calls Tryz.prog 33 #[.int .i64 (k:Int)] w (Ans (.string (Ah k)) w):=by
 have hcv:=a1v
 by_cases h0:k=0
 ·subst h0
  go_enter Tryz.func33,Tryz.ntmps33
  go_wp2
  go_ret
  exact⟨rfl,Below.refl _ _⟩
 have e0:decide ((k:Int)<=0)=false:=decide_eq_false (by omega)
 have HMT:Hid (Ah k=⟨#[109]⟩++mtB k ByteArray.empty):=by
  refine hide ?_
  unfold Ah
  rw[if_neg h0]
 generalize Ah k=R at *
 go_enter Tryz.func33,Tryz.ntmps33
 go_wp2
 go_loopg [0,3] k (fun g kk o wr=>∃(n:Nat) (s:ByteArray),n<=k∧g=n∧kk=.int .i64 (n:Int)∧o=.string s∧Hid (mtB n s=mtB k ByteArray.empty)∧s.size+n<=k∧Below w.heap.size w wr)
 case atStart=>exact⟨k,_,Nat.le_refl _,rfl,rfl,rfl,rfl,(by show 0+k<=k;omega),Below.refl _ _⟩
 case round =>
  obtain⟨n,s,hn,hg,rfl,rfl,hm,hsz,hbl⟩:=hrel
  have HG:=hide hg
  have qx:=hide hbl
  have hs:=hbl.size
  clear hg hbl
  by_cases hz:n=0
  ·have HE:Hid (s=mtB k ByteArray.empty):=by
    refine hide ?_
    have h9:=uh hm
    rw[hz] at h9
    rw[←h9]
    rfl
   have f1:decide (0<(n:Int))=false:=decide_eq_false (by omega)
   have f2:decide (0<n)=false:=decide_eq_false (by omega)
   clear hm hz
   go_wp2
   all_goals
    go_ret
    refine⟨?_,uh qx⟩
    rw[uh HMT,uh HE]
    rfl
  ·have f1:decide (0<(n:Int))=true:=decide_eq_true (by omega)
   have HS:Hid (mtB (n / 10) (ByteArray.empty.push (48+UInt8.ofNat (n % 10))++s)=mtB k ByteArray.empty):=by
    refine hide ?_
    rw[←uh hm]
    rw [mtB_eq n s, if_neg hz]
    rfl
   clear hm
   have Kr:=hide hsz
   go_wp2
   go_roundg (n / 10)
   case measure=>have:=uh HG;omega
   case rel=>exact⟨n / 10,_,by omega,rfl,by go_num,rfl,HS,(by rw[ByteArray.size_append,ByteArray.size_push];have:=uh Kr;have h3:ByteArray.empty.size=0:=rfl;omega),(uh qx).alloc hs _⟩
theorem Ac (K:Int) (k:Nat) (w:World) (hK:K=(k:Int)) (hk:k<=4611686018427387904):Calls Tryz.prog 33 #[.int .i64 K] w (Ans (.string (Ah k)) w):=by
 subst hK
 exact akq k w hk
end Go.Proofs.YtlcgnbcgmljpaaaGreat
