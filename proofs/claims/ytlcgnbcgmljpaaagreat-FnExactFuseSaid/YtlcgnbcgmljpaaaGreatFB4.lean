import Derived.Test.YtlcgnbcgmljpaaaGreatFB3
import Derived.Deep.QuietTactic
import Derived.BigQuiet
namespace Go.Proofs.YtlcgnbcgmljpaaaGreat
open Go.RowKit
set_option linter.unusedSimpArgs false
set_option linter.unusedVariables false
theorem as2 (u:Value) (k:Nat) (hk:k<8) (c':Raw 8):∀(cs:List (Raw 8)) (i:Nat) (hi:i<cs.length),c'.1=cs[i].1.set k u->(cs.flatMap (fun c=>c.1)).set (i*8+k) u=(cs.set i c').flatMap (fun c=>c.1):=by
 intro cs
 induction cs with
 | nil=>intro i hi;exact absurd hi (Nat.not_lt_zero _)
 | cons c cs ih =>
  intro i hi hc
  have hl:c.1.length=8:=c.2.1
  cases i with
  | zero =>
   simp only[List.getElem_cons_zero] at hc
   simp only[List.flatMap_cons,List.set_cons_zero,Nat.zero_mul,Nat.zero_add]
   rw[List.set_append_left _ _ (by omega),hc]
  | succ i =>
   simp only[List.getElem_cons_succ] at hc
   simp only[List.flatMap_cons,List.set_cons_succ]
   rw[List.set_append_right _ _ (by omega),show (i+1)*8+k-c.1.length=i*8+k from by omega,ih i (by simpa using hi) hc]
theorem ab8 {w:World} {B g cap:Nat} {cs:List (Raw 8)} (h:dw uq w B (.slice (some ⟨g,0,none⟩) cs.length cap) cs) (i k:Nat) (hi:i<cs.length) (hk:k<8) (u:Value) (c':Raw 8) (hc:c'.1=cs[i].1.set k u) :
  dw uq (w.setCell ⟨g,i*8+k,none⟩ u) B (.slice (some ⟨g,0,none⟩) cs.length cap) (cs.set i c'):=by
 obtain⟨h1,h2⟩:=h
 rcases h2 with ⟨hv,_⟩|⟨g',cap',cur,hv,hg,hh,hn,hm,hs,ht⟩
 ·cases hv
 ·simp only[Value.slice.injEq,Option.some.injEq,Addr.mk.injEq] at hv
  obtain⟨⟨rfl,_⟩,_,rfl⟩:=hv
  have hb:au w g uq.T cur:=hh
  have hb2:=hb.set (i*8+k) u
  have hfl:=as2 u k hk c' cs i hi hc
  refine⟨?_,Or.inr ⟨g,cap,cur.setIfInBounds (i*8+k) u,by rw[List.length_set],hg,hb2,by rw[List.length_set];exact hn,hm,by rw[Array.size_setIfInBounds];exact hs,?_⟩⟩
  ·have h9:(cs.set i c').flatMap uq.f=(cs.flatMap uq.f).set (i*8+k) u:=hfl.symm
   rw[h9,List.length_set,List.length_set]
   exact h1
  ·have h9:(cs.set i c').flatMap uq.f=(cs.flatMap uq.f).set (i*8+k) u:=hfl.symm
   rw[h9,←ht,Array.toList_setIfInBounds,List.length_set,List.take_set]
theorem air {P:Program} {α:Type} (E:wo P α) (w:World) (ty:TypeId) (base b2:Nat) (v xv:Value) (xs ys:List α) (hown:dw E w base v xs) (hown2:dw E w b2 xv ys) (hb:(xs.length+ys.length)*E.jh<=140737488355328) (hbase:base<=w.heap.size) :
  ∃v' w',(Builtin.append_ #[E.ST,E.ST] ty #[v,xv]).run P w=.ok v' w'∧dw E w' base v' (xs++ys)∧w.grownBy w' v.ownBlock∧(∀b,v'.ownBlock=some b->v.ownBlock=some b∨w.heap.size<=b):=by
 obtain⟨i,hi,hz0,hz1,hz2⟩:=info_parts E.hi
 have hlen:xs.length+ys.length<=140737488355328:=Nat.le_trans (Nat.le_mul_of_pos_right _ E.hby) hb
 rcases hown2.shape with ⟨rfl,rfl⟩|⟨g,cap,rfl,_,_,hcap⟩
 ·rcases hown.shape with ⟨rfl,rfl⟩|⟨g1,cap1,rfl,_,_,hcap1⟩
  ·refine⟨.slice none 0 0,w,?_,by simpa using hown,World.grownBy.refl w _,fun b hb=>Or.inl hb⟩
   simp[Builtin.append_,run_underlying E.hT,sizeOf,typeInfo,hi,Builtin.lenOf,Builtin.firstCells]
  ·have hrun:=run_append_room_src (P:=P) w E.ST E.ST ty E.T i E.hT hi g1 0 xs.length cap1 (.slice none 0 0) 0 [] (Src.ofNil w E.hT 0) (by omega) (fun j hj=>by simp at hj) (fun j hj=>by simp at hj)
   have hsc:w.setCells g1 (0+xs.length*i.size) []=w:=by simp[World.setCells]
   rw[hsc] at hrun
   exact⟨_,w,by simpa using hrun,by simpa using hown,World.grownBy.refl w _,fun b hb=>Or.inl hb⟩
 ·obtain⟨v',w',hr,h2,h3,h4⟩:=Ru (P:=P) (w:=w) base E.ST ty E.T i _ E.sz E.jh E.hT hi hz0 hz1 hz2 E.hz E.hsz v xs.length (xs.flatMap E.f) hown ⟨g,0,none⟩ ys.length cap (ys.flatMap E.f) (Mc E.f E.sz E.hf ys) (fun j u hu=>World.ownsRow.cells hown2 (g:=g) rfl j u hu) (fun u hu=>by obtain⟨y,_,hy⟩:=List.mem_flatMap.1 hu;exact E.h1 y u hy) (by simp[maxLen];omega) hb hbase
  refine⟨v',w',hr,?_,h3,h4⟩
  unfold dw
  rw[List.length_append,List.flatMap_append]
  exact h2
theorem Ud (p q r:BF):(p.app q).app r=p.app (q.app r):=by
 induction p using BF.ind with
 | nil=>rfl
 | node s a b r2 iha ihb ihr=>show BF.node s a b ((r2.app q).app r)=BF.node s a b (r2.app (q.app r));rw[ihr]
theorem as3 (f:BF->BF) (p q:BF):kids f (p.app q)=(kids f p).app (kids f q):=by
 induction p using BF.ind with
 | nil=>rfl
 | node s a b r2 iha ihb ihr=>show BF.node s (f a) (f b) (kids f (r2.app q))=BF.node s (f a) (f b) ((kids f r2).app (kids f q));rw[ihr]
def JR (t jt r:BF):Prop:=(jt=.nil∧r=t)∨∃(pre:BF) (s:dh) (a b:BF),jt=pre.app (.node s a b .nil)∧pre.app (I5 s a b r)=jn t
theorem JR.a2h {t r a b:BF} {s:dh} (h:JR t .nil (.node s a b r)):JR t (.node s a b .nil) r:=by
 rcases h with ⟨_,h⟩|⟨pre,s0,a0,b0,h,_⟩
 ·exact Or.inr ⟨.nil,s,a,b,rfl,by rw[←h];rfl⟩
 ·cases pre using BF.inv<;>cases h
theorem JR.push {t pre a0 b0 r a b:BF} {s0 s:dh} (h:pre.app (I5 s0 a0 b0 (.node s a b r))=jn t) (hj:Ko s0 s=false):JR t ((pre.app (.node s0 a0 b0 .nil)).app (.node s a b .nil)) r:=by
 refine Or.inr ⟨pre.app (.node s0 a0 b0 .nil),s,a,b,rfl,?_⟩
 rw[←h,Ud,I5,if_neg (by rw[hj];simp)]
 rfl
theorem JR.join {t pre a0 b0 r a b:BF} {s0 s:dh} (h:pre.app (I5 s0 a0 b0 (.node s a b r))=jn t) (hj:Ko s0 s=true):JR t (pre.app (.node s0 (a0.app a) (b0.app b) .nil)) r:=by
 refine Or.inr ⟨pre,s0,_,_,rfl,?_⟩
 rw[←h,I5.eq_2 s0 a0 b0 s a b r,if_pos hj]
theorem JR.done {t jt:BF} (h:JR t jt .nil):jt=jn t:=by
 rcases h with ⟨h1,h2⟩|⟨pre,s,a,b,h1,h2⟩
 ·rw[h1,←h2];rfl
 ·rw[h1,←h2];rfl
theorem Au.split {W0 w:World} {t u:BF}:∀{css:List (Raw 8)} {fs ss:List Nat},Au W0 w (t.app u) css fs ss->∃ct cu ft fu st su,css=ct++cu∧fs=ft++fu∧ss=st++su∧Au W0 w t ct ft st∧Au W0 w u cu fu su:=by
 induction t using BF.ind with
 | nil=>intro css fs ss h;exact⟨[],css,[],fs,[],ss,rfl,rfl,rfl,⟨rfl,rfl,rfl⟩,h⟩
 | node s a b r iha ihb ihr =>
  intro css fs ss h
  obtain⟨st,va,vb,c,cr,ca,cb,fa,fb,fr,s0,sa,sb,sr,rfl,h2,h3,h4,h6,h8,rfl,rfl⟩:=h
  obtain⟨ct,cu,ft,fu,st2,su,rfl,rfl,rfl,k1,k2⟩:=ihr h8
  exact⟨c::ct,cu,gu va++fa++(gu vb++fb)++ft,fu,s0++sa++sb++st2,su,rfl,by simp,by simp,⟨st,va,vb,c,ct,ca,cb,fa,fb,ft,s0,sa,sb,st2,rfl,h2,h3,h4,h6,k1,rfl,rfl⟩,k2⟩
structure Kf (fs:List Nat) (w w':World):Prop where
 os:w'.os=w.os
 tape:w'.tape=w.tape
 output:w'.output=w.output
 size:w.heap.size<=w'.heap.size
 block:∀k,k<w.heap.size->k∉fs->w'.heap[k]?=w.heap[k]?
theorem Kf.refl (fs:List Nat) (w:World):Kf fs w w:=⟨rfl,rfl,rfl,Nat.le_refl _,fun _ _ _=>rfl⟩
theorem Kf.step {fs fs1:List Nat} {w w1 w2:World} (h:Kf fs w w1) (k:Kf fs1 w1 w2) (hs:∀x,x∈fs1->x<w.heap.size->x∈fs):Kf fs w w2 :=
 ⟨k.os.trans h.os,k.tape.trans h.tape,k.output.trans h.output,Nat.le_trans h.size k.size,fun x hx hn=>(k.block x (Nat.lt_of_lt_of_le hx h.size) (fun hm=>hn (hs x hm hx))).trans (h.block x hx hn)⟩
theorem Kf.Jg {w w':World} {v:Value} (h:w.grownBy w' v.ownBlock):Kf (gu v) w w' :=
 ⟨h.os,h.tape,h.output,h.size,fun k hk hn=>h.block k hk (fun e=>hn (iq.2 e.symm))⟩
theorem Kf.set (w:World) (b o:Nat) (u:Value):Kf [b] w (w.setCell ⟨b,o,none⟩ u):=⟨rfl,rfl,rfl,by simp[World.setCell],fun k _ hk=>Below.heap_setCell _ _ _ _ (fun e=>hk (by simp only at e;rw[e];simp))⟩
theorem Kf.fr {fs:List Nat} {w w':World} (h:Kf fs w w') {bs:List Nat} (hl:∀x,x∈bs->x<w.heap.size) (hn:∀x,x∈bs->x∉fs):Fr bs w w':=fun x hx=>h.block x (hl x hx) (hn x hx)
def FuP (W0:World) (t:BF) (fs ss:List Nat) (w:World) (e:Ending) (w':World):Prop:=∃v' abj fs' ss',e=.returned v'∧dw uq w' 0 v' abj∧Au W0 w' t abj fs' ss'∧ax3 w.heap.size fs (gu v'++fs')∧(∀x,ss'.count x<=ss.count x)∧Kf fs w w'
structure JS (W0 w:World) (v:Value) (css:List (Raw 8)) (fs ss:List Nat) (q:Nat) (jt r:BF) (lv:Value) (cj:List (Raw 8)) (fj sj fr sr:List Nat) (wr:World):Prop where
 own:dw uq wr w.heap.size lv cj
 kj:Au W0 wr jt cj fj sj
 kr:Au W0 wr r (css.drop q) fr sr
 ov:dw uq wr 0 v css
 cnt:∀x,(gu lv).count x+fj.count x+fr.count x<=if x<w.heap.size then fs.count x else 1
 sc:∀x,sj.count x+sr.count x<=ss.count x
 kf:Kf fs w wr
theorem Vz (v:Value) (x:Nat):(gu v).count x<=1:=Jt.1 (by unfold gu;cases v.ownBlock<;>simp) x
theorem Kf.below (fs:List Nat) {w w':World} (h:Below w.heap.size w w'):Kf fs w w':=⟨h.os,h.tape,h.output,h.size,fun k hk _=>h.block k hk⟩
theorem Kf.wide {fs fs1:List Nat} {w w':World} (h:Kf fs w w') (hs:∀x,x∈fs->x∈fs1):Kf fs1 w w':=⟨h.os,h.tape,h.output,h.size,fun k hk hn=>h.block k hk (fun h9=>hn (hs k h9))⟩
theorem ab9 {lv Oo:Value} {n:Nat} (hn:∀b,Oo.ownBlock=some b->lv.ownBlock=some b∨n<=b) (x:Nat) (hx:x<n):(gu Oo).count x<=(gu lv).count x:=by
 by_cases h:x∈gu Oo
 ·rcases hn x (iq.1 h) with h9|h9
  ·have h1:=jr.1 (iq.2 h9)
   have h2:=Vz Oo x
   omega
  ·omega
 ·rw[List.count_eq_zero.2 h]
  exact Nat.zero_le _
theorem Di {l:List Nat} {n x:Nat} (h:∀b,b∈l->b<n) (hx:n<=x):l.count x=0:=List.count_eq_zero.2 (fun hm=>by have:=h x hm;omega)
theorem JS.one {W0 w:World} {v:Value} {css:List (Raw 8)} {fs ss:List Nat} {q:Nat} {jt r:BF} {lv:Value} {cj:List (Raw 8)} {fj sj fr sr:List Nat} {wr:World} (h:JS W0 w v css fs ss q jt r lv cj fj sj fr sr wr) (hfs:fs.Nodup) (x:Nat):(gu lv).count x+fj.count x+fr.count x<=1:=by
 have h1:=h.cnt x
 have h2:=Jt.1 hfs x
 split at h1<;>omega
theorem JS.push {W0 w:World} {v:Value} {css:List (Raw 8)} {fs ss:List Nat} {q:Nat} {jt a b r:BF} {s:dh} {lv:Value} {cj:List (Raw 8)} {fj sj fr sr:List Nat} {wr wX w5:World} (h:JS W0 w v css fs ss q jt (.node s a b r) lv cj fj sj fr sr wr) (hfs:fs.Nodup) (hv:∀x,x∈gu v->x<w.heap.size) (hq:q<css.length) (hX:Below wr.heap.size wr wX) {Oo:Value} (h5:dw uq w5 w.heap.size Oo (cj++[css[q]])) (hg:wX.grownBy w5 lv.ownBlock) (hn:∀b,Oo.ownBlock=some b->lv.ownBlock=some b∨wX.heap.size<=b) :
  ∃fj' Ji fr' Jh,JS W0 w v css fs ss (q+1) (jt.app (.node s a b .nil)) r Oo (cj++[css[q]]) fj' Ji fr' Jh w5:=by
 have hk:Kf (gu lv) wr w5:=(Kf.below _ hX).step (Kf.Jg hg) (fun x hx _=>hx)
 have hone:=h.one hfs
 have hlo:∀x,x∈gu lv->w.heap.size<=x∧x<wr.heap.size:=fun x hx=>World.ownsRow.lt h.own x (iq.1 hx)
 have hXs:=hX.size
 have hws:=h.kf.size
 have hkj:=h.kj.fr (hk.fr h.kj.lt (fun x hx h9=>by
  have h1:=jr.1 hx
  have h2:=jr.1 h9
  have h3:=hone x
  omega))
 have hkr:=h.kr.fr (hk.fr h.kr.lt (fun x hx h9=>by
  have h1:=jr.1 hx
  have h2:=jr.1 h9
  have h3:=hone x
  omega))
 obtain⟨st,va,vb,c,cr,ca,cb,fa,fb,fr2,s0,sa,sb,sr2,h1,h2,h3,h4,h6,h8,hfr,hsr⟩:=hkr
 rw[List.drop_eq_getElem_cons hq,List.cons.injEq] at h1
 obtain⟨rfl,rfl⟩:=h1
 refine⟨fj++(gu va++fa++(gu vb++fb)++[]),sj++(s0++sa++sb++[]),fr2,sr2,h5,hkj.app ⟨st,va,vb,css[q],[],ca,cb,fa,fb,[],s0,sa,sb,[],rfl,h2,h3,h4,h6,⟨rfl,rfl,rfl⟩,rfl,rfl⟩,h8,h.ov.L9 (hk.fr (fun x hx=>Nat.lt_of_lt_of_le (hv x hx) hws) (fun x hx h9=>by have:=hv x hx;have:=hlo x h9;omega)),fun x=>?_,fun x=>?_,h.kf.step hk (fun x hx hlt=>by have:=hlo x hx;omega)⟩
 ·have h9:=h.cnt x
  rw[hfr] at h9
  simp only[List.count_append,List.append_nil] at h9 ⊢
  by_cases hx:x<wX.heap.size
  ·have h7:=ab9 hn x hx
   split at h9
   ·rw[if_pos (by assumption)];omega
   ·rw[if_neg (by assumption)];omega
  ·have e1:=Di h.kj.lt (show wr.heap.size<=x by omega)
   have e2:=Di h.kr.lt (show wr.heap.size<=x by omega)
   rw[hfr] at e2
   simp only[List.count_append] at e2
   have e3:=Vz Oo x
   rw[if_neg (by omega)]
   omega
 ·have h9:=h.sc x
  rw[hsr] at h9
  simp only[List.count_append,List.append_nil] at h9 ⊢
  omega
theorem abk {w:World} {B:Nat} {v:Value} {cs:List (Raw 8)} (h:dw uq w B v cs) (i:Nat) (hi:i<cs.length):∃g cap,v=.slice (some ⟨g,0,none⟩) cs.length cap∧cs.length<=cap∧(∀k u,cs[i].1[k]?=some u->w.cell? ⟨g,i*8+k,none⟩=some u∧w.frozen? ⟨g,i*8+k,none⟩=false):=by
 rcases h.shape with ⟨_,h2⟩|⟨g,cap,hv,_,_,hc⟩
 ·rw[h2] at hi;exact absurd hi (Nat.not_lt_zero _)
 ·rcases h.O8 with ⟨_,_,hh1,hh2⟩|⟨g',cap',hh1,hh2⟩
  ·rw[hh2] at hi;exact absurd hi (Nat.not_lt_zero _)
  ·rw[hv] at hh1
   simp only[Value.slice.injEq,Option.some.injEq,Addr.mk.injEq] at hh1
   obtain⟨⟨rfl,_⟩,_,rfl⟩:=hh1
   refine⟨g,cap,hv,hc,fun k u hu=>?_⟩
   obtain⟨hk,hku⟩:=List.getElem?_eq_some_iff.1 hu
   have h9:=hh2 i hi k hk
   have e9:(uq.f cs[i])=cs[i].1:=rfl
   simp only[e9] at h9
   rw[hku] at h9
   exact h9
theorem acd (c:Raw 8) (st:List Value) (va vb u:Value) (hl:st.length=6) (hc:c.1=st++[va,vb]) (hu:u.oneCell'=true):(∃c6:Raw 8,c6.1=c.1.set 6 u∧c6.1=st++[u,vb])∧(∃c7:Raw 8,c7.1=c.1.set 7 u∧c7.1=st++[va,u]):=by
 have e6:c.1.set 6 u=st++[u,vb]:=by rw[hc,List.set_append_right _ _ (by omega),hl];rfl
 have e7:c.1.set 7 u=st++[va,u]:=by rw[hc,List.set_append_right _ _ (by omega),hl];rfl
 have hone:∀x,x∈st++[va,vb]->x.oneCell'=true:=fun x hx=>c.2.2 x (hc▸hx)
 refine⟨⟨⟨st++[u,vb],by simp[hl],fun x hx=>?_⟩,e6.symm,rfl⟩,⟨⟨st++[va,u],by simp[hl],fun x hx=>?_⟩,e7.symm,rfl⟩⟩
 ·simp only[List.mem_append,List.mem_cons,List.not_mem_nil,or_false] at hx
  rcases hx with hx|rfl|rfl
  ·exact hone x (by simp[hx])
  ·exact hu
  ·exact hone _ (by simp)
 ·simp only[List.mem_append,List.mem_cons,List.not_mem_nil,or_false] at hx
  rcases hx with hx|rfl|rfl
  ·exact hone x (by simp[hx])
  ·exact hone _ (by simp)
  ·exact hu
theorem dw.adf {P:Program} {α:Type} {E:wo P α} {w:World} {base:Nat} {v:Value} {xs:List α} (h:dw E w base v xs):v.oneCell'=true:=by
 obtain⟨a,c,rfl⟩:=h.slice
 rfl
theorem Aa.afm {w:World} {cs:List Value} {t:dh} {bs:List Nat} (h:Aa w cs t bs):cs.length=6:=by
 obtain⟨oa,oc,ca,cc,aa,ac,rfl⟩:=h.shape
 rfl
theorem as4 {α:Type} (l:List α) (a b:α):(l++[a]).set l.length b=l++[b]:=by
 rw[List.set_append_right _ _ (Nat.le_refl _),Nat.sub_self]
 rfl
theorem as5 {α:Type} (l:List α) (a:α) (h:l.length<(l++[a]).length):(l++[a])[l.length]=a:=by simp
def av4 (w:World) (x y v':Value) (w':World):Prop:=(Builtin.append_ #[135,135] 135 #[x,y]).run Tryz.prog w=.ok v' w'
theorem JS.join {W0 w:World} {v:Value} {css:List (Raw 8)} {fs ss:List Nat} {q:Nat} {pre a0 b0 a b r:BF} {s0 s:dh} {lv:Value} {cj:List (Raw 8)} {fj sj fr sr:List Nat} {wr:World} (h:JS W0 w v css fs ss q (pre.app (.node s0 a0 b0 .nil)) (.node s a b r) lv cj fj sj fr sr wr) (hfs:fs.Nodup) (hv:∀x,x∈gu v->x<w.heap.size) (hvn:∀x,x∈gu v->x∉fs) (hq:q<css.length) :
  ∃(n g cap:Nat) (st0 st:List Value) (N7 vb0 va vb:Value) (c0:Raw 8),n+1=cj.length∧n+1<=cap∧lv=.slice (some ⟨g,0,none⟩) (n+1) cap∧w.heap.size<=g∧g<wr.heap.size∧c0.1=st0++[N7,vb0]∧css[q].1=st++[va,vb]∧(∃x,Aa W0 st0 s0 x)∧(∃x,Aa W0 st s x)∧(∀k u,c0.1[k]?=some u->wr.cell? ⟨g,n*8+k,none⟩=some u∧wr.frozen? ⟨g,n*8+k,none⟩=false)∧N7.oneCell'=true ∧
   ∀wX,a0.flat.length+a.flat.length<=1000000->b0.flat.length+b.flat.length<=1000000->Below wr.heap.size wr wX->∃Vb w5,av4 wX N7 va Vb w5∧Vb.oneCell'=true∧(∃x y z,Vb=.slice x y z)∧Kf (gu N7) wX w5∧w5.heap[g]?=wr.heap[g]?∧(∀x,x∈gu N7->x<wr.heap.size) ∧
    ∀w6 wY,w6=w5.setCell ⟨g,n*8+6,none⟩ Vb->Below w6.heap.size w6 wY->wY.heap[g]?=w6.heap[g]?∧∃Vd w7,av4 wY vb0 vb Vd w7∧Vd.oneCell'=true∧(∃x y z,Vd=.slice x y z)∧Kf (gu vb0) wY w7∧w7.heap[g]?=w6.heap[g]? ∧
     ∃cj' fj' Ji fr' Jh,cj'.length=cj.length∧JS W0 w v css fs ss (q+1) (pre.app (.node s0 (a0.app a) (b0.app b) .nil)) r lv cj' fj' Ji fr' Jh (w7.setCell ⟨g,n*8+7,none⟩ Vd):=by
 have hone:=h.one hfs
 have hlo:∀x,x∈gu lv->w.heap.size<=x∧x<wr.heap.size:=fun x hx=>World.ownsRow.lt h.own x (iq.1 hx)
 have hws:=h.kf.size
 obtain⟨cp,cu,fp,fu,sp,su,hcj,hfj,hsj,kp,ku⟩:=h.kj.split
 obtain⟨st0,N7,vb0,c0,cr0,ca0,cb0,fa0,fb0,fr0,s00,sa0,sb0,sr0,h1,h2,h3,⟨oa0,ka0⟩,⟨ob0,kb0⟩,⟨hcr0,hfr0,a3i⟩,hfu,hsu⟩:=ku
 subst hcr0 hfr0 a3i
 obtain⟨st,va,vb,c,cr,ca,cb,fa,fb,fr2,s1,sa,sb,sr2,g1,g2,g3,⟨oa,ka⟩,⟨ob,kb⟩,g8,hfr,hsr⟩:=h.kr
 rw[List.drop_eq_getElem_cons hq,List.cons.injEq] at g1
 obtain⟨rfl,rfl⟩:=g1
 subst h1 hfu hsu hfr hsr
 have hn1:cp.length<cj.length:=by rw[hcj];simp
 obtain⟨g,cap,hlv,hcap,hcells⟩:=abk h.own cp.length hn1
 have hcl:cj.length=cp.length+1:=by rw[hcj];simp
 have hgl:cj[cp.length]=c0:=by subst hcj;exact as5 _ _ _
 rw[hgl] at hcells
 rw[hcl] at hlv hcap
 have hg:=hlo g (iq.2 (by rw[hlv];rfl))
 have hgm:g∈gu lv:=iq.2 (by rw[hlv];rfl)
 subst hfj hsj
 simp only[List.append_nil,List.count_append] at hone
 have hgc:=jr.1 hgm
 have aym:=hone g
 have la0:=ka0.len
 have la:=ka.len
 have lb0:=kb0.len
 have lb:=kb.len
 have a2i:∀x,x∈gu N7->x<wr.heap.size:=fun x hx=>(World.ownsRow.lt oa0 x (iq.1 hx)).2
 have ani:∀x,x∈gu vb0->x<wr.heap.size:=fun x hx=>(World.ownsRow.lt ob0 x (iq.1 hx)).2
 have a5w:∀x,x∈gu va->x<wr.heap.size:=fun x hx=>(World.ownsRow.lt oa x (iq.1 hx)).2
 have a3j:∀x,x∈gu vb->x<wr.heap.size:=fun x hx=>(World.ownsRow.lt ob x (iq.1 hx)).2
 refine⟨cp.length,g,cap,st0,st,N7,vb0,va,vb,c0,hcl.symm,hcap,hlv,hg.1,hg.2,h2,g2,⟨_,h3⟩,⟨_,g3⟩,hcells,oa0.adf,fun wX hla hlb hX=>?_⟩
 have hXs:=hX.size
 obtain⟨Vb,w5,N8,o5,gr5,n5⟩:=air uq wX 135 0 0 N7 va ca0 ca (oa0.below hX) (oa.below hX) (by show _*152<=_;omega) (Nat.zero_le _)
 have k5:Kf (gu N7) wX w5:=Kf.Jg gr5
 have k5r:Kf (gu N7) wr w5:=(Kf.below _ hX).step k5 (fun x hx _=>hx)
 have hg5:w5.heap[g]?=wr.heap[g]?:=k5r.block g hg.2 (fun h9=>by have:=jr.1 h9;omega)
 refine⟨Vb,w5,N8,o5.adf,(by obtain⟨x,z,e⟩:=o5.slice;exact⟨_,_,_,e⟩),k5,hg5,a2i,fun w6 wY hw6 hY=>?_⟩
 have s5:=k5.size
 have s6:w6.heap.size=w5.heap.size:=by rw[hw6];simp[World.setCell]
 have sY:=hY.size
 have k6:Kf (gu N7++gu lv) wr wY:=by
  refine((k5r.wide (fun x hx=>List.mem_append_left _ hx)).step (w2:=w6) (fs1:=[g]) (by rw[hw6];exact Kf.set _ _ _ _) (fun x hx _=>by rw[List.mem_singleton.1 hx];exact List.mem_append_right _ hgm)).step (Kf.below [] hY) (fun x hx=>by cases hx)
 have fr6:∀bs,(∀x,x∈bs->x<wr.heap.size)->(∀x,x∈bs->x∉gu N7∧x∉gu lv)->Fr bs wr wY:=fun bs b1 b2=>k6.fr b1 (fun x hx h9=>by
  rcases List.mem_append.1 h9 with h9|h9
  ·exact(b2 x hx).1 h9
  ·exact(b2 x hx).2 h9)
 have dis:∀{A:List Nat},(∀x,x∈A->1<=A.count x->x∉gu N7∧x∉gu lv)->∀x,x∈A->x∉gu N7∧x∉gu lv:=fun hA x hx=>hA x hx (jr.1 hx)
 have a3k:=ob0.L9 (fr6 _ ani (dis (fun x hx h9=>⟨fun h8=>by have:=jr.1 h8;have:=hone x;omega,fun h8=>by have:=jr.1 h8;have:=hone x;omega⟩)))
 have obY:=ob.L9 (fr6 _ a3j (dis (fun x hx h9=>⟨fun h8=>by have:=jr.1 h8;have:=hone x;omega,fun h8=>by have:=jr.1 h8;have:=hone x;omega⟩)))
 have hgY:wY.heap[g]?=w6.heap[g]?:=hY.block g (by omega)
 obtain⟨Vd,w7,Qr,o7,gr7,n7⟩:=air uq wY 135 0 0 vb0 vb cb0 cb a3k obY (by show _*152<=_;omega) (Nat.zero_le _)
 have k7:Kf (gu vb0) wY w7:=Kf.Jg gr7
 have s7:=k7.size
 have hg7:w7.heap[g]?=w6.heap[g]?:=(k7.block g (by omega) (fun h9=>by have:=jr.1 h9;omega)).trans hgY
 refine⟨hgY,Vd,w7,Qr,o7.adf,(by obtain⟨x,z,e⟩:=o7.slice;exact⟨_,_,_,e⟩),k7,hg7,?_⟩
 obtain⟨w8,hw8⟩:∃z,z=w7.setCell ⟨g,cp.length*8+7,none⟩ Vd:=⟨_,rfl⟩
 rw[←hw8]
 have s8:w8.heap.size=w7.heap.size:=by rw[hw8];simp[World.setCell]
 have a3l:dw uq w5 w.heap.size (.slice (some ⟨g,0,none⟩) cj.length cap) cj:=by
  have h9:=h.own
  rw[hlv,←hcl] at h9
  exact h9.Ai (fun b hb=>by cases hb;exact hg5)
 obtain⟨c6,hc6,ais⟩:=(acd c0 st0 N7 vb0 Vb h3.afm h2 o5.adf).1
 have a3m:dw uq w6 w.heap.size (.slice (some ⟨g,0,none⟩) cj.length cap) (cj.set cp.length c6):=by
  rw[hw6]
  exact ab8 a3l cp.length 6 hn1 (by omega) Vb c6 (by rw[hgl];exact hc6)
 have a3n:dw uq w7 w.heap.size (.slice (some ⟨g,0,none⟩) (cj.set cp.length c6).length cap) (cj.set cp.length c6):=by
  rw[List.length_set]
  exact a3m.Ai (fun b hb=>by cases hb;exact hg7)
 obtain⟨c7,hc7,a3o⟩:=(acd c6 st0 Vb vb0 Vd h3.afm ais o7.adf).2
 have a3p:dw uq w8 w.heap.size lv (cp++[c7]):=by
  have h9:=ab8 a3n cp.length 7 (by rw[List.length_set];exact hn1) (by omega) Vd c7 (by rw[List.getElem_set_self];exact hc7)
  rw[hw8,hlv]
  rw[List.length_set,hcl,List.set_set,hcj,as4] at h9
  exact h9
 have k8:Kf (gu N7++gu lv++gu vb0) wr w8:=by
  refine((k6.wide (fun x hx=>List.mem_append_left _ hx)).step k7 (fun x hx _=>List.mem_append_right _ hx)).step (w2:=w8) (fs1:=[g]) (by rw[hw8];exact Kf.set _ _ _ _) (fun x hx _=>by rw[List.mem_singleton.1 hx];exact List.mem_append_left _ (List.mem_append_right _ hgm))
 have fr8:∀A:List Nat,(∀x,x∈A->x<wr.heap.size)->(∀x,1<=A.count x->(gu N7).count x=0∧(gu lv).count x=0∧(gu vb0).count x=0)->Fr A wr w8:=fun A b1 b2=>k8.fr b1 (fun x hx h9=>by
  obtain⟨e1,e2,e3⟩:=b2 x (jr.1 hx)
  simp only[List.mem_append] at h9
  rcases h9 with (h9|h9)|h9
  ·have:=jr.1 h9;omega
  ·have:=jr.1 h9;omega
  ·have:=jr.1 h9;omega)
 have k58:∀x,x∈gu Vb->w8.heap[x]?=w5.heap[x]?:=fun x hx=>by
  have hx5:=(World.ownsRow.lt o5 x (iq.1 hx)).2
  have hxg:x≠g:=fun e=>by
   rcases n5 x (iq.1 hx) with h9|h9
   ·have:=jr.1 (iq.2 h9);rw[e] at this;omega
   ·omega
  have hxb:x∉gu vb0:=fun h8=>by
   rcases n5 x (iq.1 hx) with h9|h9
   ·have:=jr.1 (iq.2 h9);have:=jr.1 h8;have:=hone x;omega
   ·have:=ani x h8;omega
  have e1:w8.heap[x]?=w7.heap[x]?:=by rw[hw8];exact Below.heap_setCell _ _ _ _ (fun e=>hxg (by simpa using e))
  have e2:w7.heap[x]?=wY.heap[x]?:=k7.block x (by omega) hxb
  have e3:wY.heap[x]?=w6.heap[x]?:=hY.block x (by omega)
  have e4:w6.heap[x]?=w5.heap[x]?:=by rw[hw6];exact Below.heap_setCell _ _ _ _ (fun e=>hxg (by simpa using e))
  rw[e1,e2,e3,e4]
 have k78:∀x,x∈gu Vd->w8.heap[x]?=w7.heap[x]?:=fun x hx=>by
  have hxg:x≠g:=fun e=>by
   rcases n7 x (iq.1 hx) with h9|h9
   ·have:=jr.1 (iq.2 h9);rw[e] at this;omega
   ·omega
  rw[hw8];exact Below.heap_setCell _ _ _ _ (fun e=>hxg (by simpa using e))
 have ltp:=kp.lt
 have ayn:=ka0.lt
 have lta:=ka.lt
 have ayo:=kb0.lt
 have ltb:=kb.lt
 have ltr:=g8.lt
 refine⟨cp++[c7],fp++(gu Vb++(fa0++fa)++(gu Vd++(fb0++fb))++[]),sp++(s00++(sa0++sa)++(sb0++sb)++[]),fr2,sr2,by rw[hcl];simp,a3p,(kp.fr (fr8 _ ltp (fun x hx=>by have:=hone x;omega))).app ⟨st0,Vb,Vd,c7,[],ca0++ca,cb0++cb,fa0++fa,fb0++fb,[],s00,sa0++sa,sb0++sb,[],rfl,a3o,h3,⟨o5.L9 k58,(ka0.fr (fr8 _ ayn (fun x hx=>by have:=hone x;omega))).app (ka.fr (fr8 _ lta (fun x hx=>by have:=hone x;omega)))⟩,⟨o7.L9 k78,(kb0.fr (fr8 _ ayo (fun x hx=>by have:=hone x;omega))).app (kb.fr (fr8 _ ltb (fun x hx=>by have:=hone x;omega)))⟩,⟨rfl,rfl,rfl⟩,rfl,rfl⟩,g8.fr (fr8 _ ltr (fun x hx=>by have:=hone x;omega)),h.ov.L9 (k8.fr (fun x hx=>Nat.lt_of_lt_of_le (hv x hx) hws) (fun x hx h9=>?_)),fun x=>?_,fun x=>?_,h.kf.step k8 (fun x hx hlt=>?_)⟩
 ·have hc:=h.cnt x
  simp only[List.count_append,List.append_nil] at hc
  rw[if_pos (hv x hx),List.count_eq_zero.2 (hvn x hx)] at hc
  simp only[List.mem_append] at h9
  rcases h9 with (h9|h9)|h9
  ·have:=jr.1 h9;omega
  ·have:=jr.1 h9;omega
  ·have:=jr.1 h9;omega
 ·have hc:=h.cnt x
  simp only[List.count_append,List.append_nil] at hc ⊢
  by_cases hx:x<wX.heap.size
  ·have e1:=ab9 n5 x hx
   have e2:=ab9 n7 x (by omega)
   split at hc
   ·rw[if_pos (by assumption)];omega
   ·rw[if_neg (by assumption)];omega
  ·have hr:wr.heap.size<=x:=by omega
   have e1:=Di (fun b hb=>(hlo b hb).2) hr
   have e2:=Di ltp hr
   have e3:=Di ayn hr
   have e4:=Di lta hr
   have e5:=Di ayo hr
   have e6:=Di ltb hr
   have e7:=Di ltr hr
   have e8:(gu Vb).count x+(gu Vd).count x<=1:=by
    have c1:=Vz Vb x
    have c2:=Vz Vd x
    by_cases hm:x∈gu Vb
    ·have hx5:=(World.ownsRow.lt o5 x (iq.1 hm)).2
     have c3:(gu Vd).count x=0:=List.count_eq_zero.2 (fun h8=>by
      rcases n7 x (iq.1 h8) with h9|h9
      ·have:=ani x (iq.2 h9);omega
      ·omega)
     omega
    ·rw[List.count_eq_zero.2 hm];omega
   rw[if_neg (by omega)]
   omega
 ·have h9:=h.sc x
  simp only[List.count_append,List.append_nil] at h9 ⊢
  omega
 ·have hc:=h.cnt x
  simp only[List.count_append,List.append_nil] at hc
  rw[if_pos hlt] at hc
  refine jr.2 ?_
  simp only[List.mem_append] at hx
  rcases hx with (h9|h9)|h9
  ·have:=jr.1 h9;omega
  ·have:=hlo x h9;omega
  ·have:=jr.1 h9;omega
theorem as6 (s t:dh) (w:World) (a2 a3 a4 a5 a6 a7 b2 b3 b4 b5 b6 b7:Value):Calls Tryz.prog 117 #[.agg #[.int .i64 s.kind,.string s.name,a2,a3,a4,a5,a6,a7],.agg #[.int .i64 t.kind,.string t.name,b2,b3,b4,b5,b6,b7]] w (fun e w'=>e=.returned (.bool (Ko s t))∧Below w.heap.size w w'):=by
 go_enter Tryz.func117,Tryz.ntmps117
 have hb:∀(o1 o2:Obj),Below w.heap.size w ((w.alloc o1).alloc o2):=fun o1 o2=>((Below.refl _ _).alloc (Nat.le_refl _) _).alloc (by simp) _
 have HB:=hide hb
 clear hb
 have hnm:(s.name.toList == t.name.toList)=decide (s.name=t.name):=by
  by_cases h:s.name=t.name
  ·rw[h];simp
  ·have h9:s.name.toList≠t.name.toList:=fun e=>h (by rw[ByteArray.toList_eq,ByteArray.toList_eq] at e;exact ByteArray.ext (Array.ext' e))
   simp[h,h9]
 have HN:=hide hnm
 clear hnm
 go_wp2
 all_goals go_ret
 ·exact⟨by simp[Ko, *,uh HN],uh HB _ _⟩
 ·exact⟨by simp[Ko, *],uh HB _ _⟩
 ·exact⟨by simp[Ko, *],uh HB _ _⟩
theorem ael {t u:BF} (h:(t.app u).wf):t.wf∧u.wf:=by
 induction t using BF.ind with
 | nil=>exact⟨trivial,h⟩
 | node s a b r iha ihb ihr =>
  obtain⟨h1,h2,h3,h4,h5,h6⟩:=h
  obtain⟨h7,h8⟩:=ihr h6
  exact⟨⟨h1,h2,h3,h4,h5,h7⟩,h8⟩
structure JB (t jt r:BF):Prop where
 rel:JR t jt r
 wj:jt.wf
 wr:r.wf
 len:jt.flat.length+r.flat.length<=t.flat.length
 dj:jt.depth<=t.depth
 dr:r.depth<=t.depth
theorem JB.start {t:BF} (h:t.wf):JB t .nil t:=⟨Or.inl ⟨rfl,rfl⟩,trivial,h,by simp[BF.flat],Nat.zero_le _,Nat.le_refl _⟩
theorem JB.more {t jt r a b:BF} {s:dh} (h:JB t jt (.node s a b r)) (hr:JR t (jt.app (.node s a b .nil)) r):JB t (jt.app (.node s a b .nil)) r:=by
 obtain⟨h1,h2,h3,h4,h5,h6⟩:=h.wr
 have hl:=h.len
 have hd:=h.dr
 rw[tq] at hd
 refine⟨hr,Ua h.wj ⟨h1,h2,h3,h4,h5,trivial⟩,h6,?_,?_,by omega⟩
 ·rw[Aj,jd]
  rw[jd] at hl
  split at hl
  ·rw[if_pos (by assumption)]
   simp only[List.length_append,List.length_cons,BF.flat,List.length_nil] at hl ⊢
   omega
  ·rw[if_neg (by assumption)]
   simp only[List.length_append,List.length_cons,BF.flat,List.length_nil] at hl ⊢
   omega
 ·have hj:=h.dj
  rw[G8,tq]
  have e0:BF.depth .nil=0:=rfl
  omega
theorem JB.join {t pre a0 b0 r a b:BF} {s0 s:dh} (h:JB t (pre.app (.node s0 a0 b0 .nil)) (.node s a b r)) (hrel:pre.app (I5 s0 a0 b0 (.node s a b r))=jn t) (hj:Ko s0 s=true) :
  JB t (pre.app (.node s0 (a0.app a) (b0.app b) .nil)) r∧a0.flat.length+a.flat.length<=t.flat.length∧b0.flat.length+b.flat.length<=t.flat.length:=by
 obtain⟨hk0,hk,_⟩:=(Rn s0 s).1 hj
 obtain⟨h1,h2,h3,h4,h5,h6⟩:=h.wr
 obtain⟨hp,g1,g2,g3,g4,g5,_⟩:=ael h.wj
 have hl:=h.len
 have hd:=h.dr
 have hj2:=h.dj
 rw[Aj,jd,jd,if_pos hk0,if_pos hk] at hl
 simp only[List.length_append,List.length_cons,BF.flat,List.length_nil] at hl
 rw[tq] at hd
 rw[G8,tq] at hj2
 have e0:BF.depth .nil=0:=rfl
 refine⟨⟨JR.join hrel hj,Ua hp ⟨g1,g2,fun h9=>absurd hk0 h9,Ua g4 h4,Ua g5 h5,trivial⟩,h6,?_,?_,by omega⟩,by omega,by omega⟩
 ·rw[Aj,jd,if_pos hk0,Aj,Aj]
  simp only[List.length_append,List.length_cons,BF.flat,List.length_nil]
  omega
 ·rw[G8,tq,G8,G8]
  omega
end Go.Proofs.YtlcgnbcgmljpaaaGreat
