import Derived.Test.YtflcnhfakcgkeaaGreatCR1
import Derived.Test.YtflcnhfakcgkeaaGreatWI3
import Derived.Test.YtflcnhfakcgkeaaGreatMapF
namespace Go.Proofs.YtflcnhfakcgkeaaGreat
open Go.RowKit
set_option linter.unusedSimpArgs false
set_option linter.unusedVariables false
abbrev Il:=Nat->Nat->Bool
def upd (M:Il) (i j:Nat):Il:=fun a b=>M a b||(a == i&&b == j)
def Iq (k i j:Nat) (M:Il):Il:=if M i k&&M k j then upd M i j else M
def wJ (k i:Nat) (M:Il):Nat->Il
 | 0=>M
 | n+1=>Iq k i n (wJ k i M n)
def wI (N k:Nat) (M:Il):Nat->Il
 | 0=>M
 | n+1=>wJ k n (wI N k M n) N
def wK (N:Nat) (M:Il):Nat->Il
 | 0=>M
 | n+1=>wI N n (wK N M n) N
def diag (M:Il):Nat->Bool
 | 0=>false
 | n+1=>diag M n||M n n
def Xb (es:List qg) (names:List ByteArray) (m:Nat):Nat->Bool:=fun j=>(names.take m).any fun nm=>Ce es nm == (j:Int)
def edge (x:ay):Il:=fun i j=>match x.eqs[i]? with|some e=>Xb x.eqs (readsOf (aj x) e) (readsOf (aj x) e).length j|none=>false
def Om (x:ay):Bool:=diag (wK x.eqs.length (edge x) x.eqs.length) x.eqs.length
theorem abr (es:List qg) (x:ByteArray) : -1<=Ce es x∧Ce es x<es.length:=by
 unfold Ce
 split<;>omega
theorem aob (es:List qg) (names:List ByteArray) (m:Nat) (hm:m<names.length) (j:Nat):Xb es names (m+1) j=(Xb es names m j||(Ce es names[m] == (j:Int))):=by
 unfold Xb
 rw[List.take_succ_eq_append_getElem hm,List.any_append]
 simp
def Rj (N:Nat):Oa Tryz.prog Nat where
 T:=164
 ST:=163
 sz:=1
 oz:=24
 f:=fun rb=>[.slice (some ⟨rb,0,none⟩) N N]
 z:=.slice none 0 0
 hT:=Tryz.underlying163
 hi:=by kernel_rfl
 hz:=rfl
 hf:=fun _=>rfl
 h1:=fun c u hu=>by
  simp only[List.mem_cons,List.not_mem_nil,or_false] at hu
  rcases hu with rfl
  rfl
 hsz:=by decide
 hby:=by decide
structure Ud (w:World) (base tb:Nat) (Jj:Nat->Nat) (N:Nat) (M:Il):Prop where
 aec:∀i,i<N->w.cell? ⟨tb,i,none⟩=some (.slice (some ⟨Jj i,0,none⟩) N N)
 row:∀i,i<N->w.rowIs (Jj i) 4 N (fun j=>.bool (M i j))
 off:∀i,i<N->Jj i≠tb
 lo:∀i,i<N->base<=Jj i
 inj:∀i j,i<N->j<N->Jj i=Jj j->i=j
theorem Ud.get {w:World} {base tb N:Nat} {Jj:Nat->Nat} {M:Il} (h:Ud w base tb Jj N M) {i j:Nat} (hi:i<N) (hj:j<N):w.cell? ⟨Jj i,j,none⟩=some (.bool (M i j)):=(h.row i hi).cell hj
theorem Ud.set {w:World} {base tb N:Nat} {Jj:Nat->Nat} {M:Il} (h:Ud w base tb Jj N M) {i j:Nat} (hi:i<N) (hj:j<N):Ud (w.setCell ⟨Jj i,j,none⟩ (.bool true)) base tb Jj N (upd M i j) where
 aec a ha:=by
  rw[World.cell?_setCell_far _ _ _ _ (by simpa using h.off i hi)]
  exact h.aec a ha
 row a ha:=by
  by_cases e:a=i
  ·subst e
   refine((h.row a ha).set j (.bool true)).congr fun b hb=>?_
   unfold upd
   by_cases e2:b=j
   ·subst e2;simp
   ·rw[if_neg e2];simp[e2]
  ·refine((h.row a ha).setOther (fun e2=>e (h.inj a i ha hi e2)) (.bool true)).congr fun b hb=>?_
   unfold upd
   simp[e]
 off:=h.off
 lo:=h.lo
 inj:=h.inj
theorem Xm {w w':World} {b t n:Nat} {f:Nat->Value} {row:Option Nat} (h:w.rowIs b t n f) (hg:w.grownBy w' row) (hne:some b≠row):w'.rowIs b t n f:=h.of_block (hg.block b h.lt hne)
theorem O6 {w w':World} {b t n:Nat} {f:Nat->Value} (h:w.rowIs b t n f) (hb:Below w.heap.size w w'):w'.rowIs b t n f:=h.of_block (hb.block b h.lt)
theorem iw.keptBut {P:Program} {α:Type} {E:Oa P α} {w w':World} {base R:Nat} {v:Value} {xs:List α} (h:iw E w base v xs) (hg:w.grownBy w' (some R)) (hne:v.ownBlock≠some R):iw E w' base v xs:=by
 obtain⟨h1,h2⟩:=h
 refine⟨h1,?_⟩
 rcases h2 with h2|⟨g,cap,cur,hv,hgb,hh,r⟩
 ·exact Or.inl h2
 ·refine Or.inr ⟨g,cap,cur,hv,hgb,?_,r⟩
  rw[hg.block g (Array.getElem?_eq_some_iff.1 hh).1 (by
   intro e
   apply hne
   rw[hv,←e]
   rfl)]
  exact hh
theorem iw.ajm {N:Nat} {w:World} {base b n:Nat} {v:Value} {xs:List Nat} {f:Nat->Value} (h:iw (Rj N) w base v xs) (hr:w.rowIs b 4 n f):some b≠v.ownBlock:=by
 obtain⟨h1,h2⟩:=h
 rcases h2 with ⟨rfl,_⟩|⟨g,cap,cur,hv,hgb,hh,r⟩
 ·intro e;cases e
 ·intro e
  subst hv
  simp only[Value.ownBlock,Option.some.injEq] at e
  subst e
  obtain⟨c,hc,_⟩:=hr
  rw[hh] at hc
  simp only[Option.some.injEq,Obj.cells.injEq] at hc
  exact absurd (show (164:Nat)=4 from hc.2.1) (by decide)
theorem H7 (w:World) (a:Addr) (v:Value):w.grownBy (w.setCell a v) (some a.block) :=
 ⟨rfl,rfl,rfl,by simp[World.setCell],fun k _ hk=>Below.heap_setCell _ _ _ _ (fun e=>hk (by rw[e]))⟩
theorem below_grown {w w':World} (h:Below w.heap.size w w') (row:Option Nat):w.grownBy w' row:=⟨h.os,h.tape,h.output,h.size,fun k hk _=>h.block k hk⟩
theorem C9 {w w1 w2:World} {row:Option Nat} (h1:w.grownBy w1 row) (h2:w1.grownBy w2 row):w.grownBy w2 row :=
 ⟨h2.os.trans h1.os,h2.tape.trans h1.tape,h2.output.trans h1.output,Nat.le_trans h1.size h2.size,fun k hk hr=>(h2.block k (Nat.lt_of_lt_of_le hk h1.size) hr).trans (h1.block k hk hr)⟩
theorem aoc {w:World} {base N:Nat} {v:Value} {F5:List Nat} {M:Il} (hl:F5.length=N) (hN:1<=N) (hN5:N<=500) (h:iw (Rj N) w base v F5) (hrow:∀i (hi:i<F5.length),w.rowIs F5[i] 4 N (fun j=>.bool (M i j)))
  (hlo:∀b,b∈F5->base<=b) (hnd:F5.Nodup):∃tb cap,v=.slice (some ⟨tb,0,none⟩) N cap∧base<=tb∧tb<w.heap.size∧Ud w base tb (fun i=>F5.getD i 0) N M:=by
 have hg:∀i (hi:i<F5.length),F5.getD i 0=F5[i]:=fun i hi=>by simp[List.getD,hi]
 have hat:=h.at (R:=fun _ _ cs rb=>cs=[.slice (some ⟨rb,0,none⟩) N N]) (fun _ _=>rfl) (by show F5.length*24<=_;omega)
 rcases h.shape with ⟨_,h0⟩|⟨tb,cap,hv,hb,hlt,_⟩
 ·subst h0;simp at hl;omega
 refine⟨tb,cap,by rw[hv,hl],hb,hlt,⟨fun i hi=>?_,fun i hi=>?_,fun i hi=>?_,fun i hi=>?_,fun i j hi hj e=>?_⟩⟩
 ·obtain⟨a,c2,hv2,_,_,hx⟩:=hat
  obtain⟨b',o',cs,ha,_,_,_,hc,hcs⟩:=hx i (by omega)
  rw[hv] at hv2
  simp only[Value.slice.injEq] at hv2
  obtain⟨e1,_,_⟩:=hv2
  rw[←e1] at ha
  simp only[Option.some.injEq,Addr.mk.injEq] at ha
  obtain⟨rfl,rfl,_⟩:=ha
  subst hcs
  have:=hc 0 (by simp)
  rw[hg i (by omega)]
  simpa[Rj] using this
 ·rw[hg i (by omega)];exact hrow i (by omega)
 ·rw[hg i (by omega)]
  have:=h.ajm (hrow i (by omega))
  rw[hv] at this
  intro e
  exact this (by rw[e];rfl)
 ·rw[hg i (by omega)];exact hlo _ (List.getElem_mem _)
 ·rw[hg i (by omega),hg j (by omega)] at e
  exact(List.getElem_inj hnd).1 e
def ahf (ks:List cu):cu:=ks.getLastD ⟨⟨#[]⟩,false⟩
def Xn (o:Option Nat):Value:=.pointer (o.map fun b=>⟨b,0,none⟩)
def aff (C:List cu->Option Nat) (ks:List cu):Option Nat:=if ks=[] then none else C ks.dropLast
def Ai (C L:List cu->Option Nat) (ks:List cu):Array Value:=#[Xn (aff C ks),.string (ahf ks).name,.bool (ahf ks).on,.int .i64 (ks.length:Int),.map (L ks),.int .i64 0,.slice none 0 0]
structure Trie (w:World) (lo:Nat) (X:Nat->Prop) (C L:List cu->Option Nat) (N:Nat):Prop where
 inj:∀ks ks' b,C ks=some b->C ks'=some b->ks=ks'
 ab9:∀ks ks' b,L ks=some b->L ks'=some b->ks=ks'
 acd:∀ks b,L ks=some b->∃p,C ks=some p
 up:∀ks c b,C (ks++[c])=some b->∃p M,C ks=some p∧L ks=some M
 blk:∀ks b,C ks=some b->dh w b 112 (Ai C L ks)∧lo<=b
 map:∀ks M,L ks=some M->I9 amd (.pointer none) w M N (fun c=>Xn (C (ks++[c])))∧lo<=M∧¬X M
 old:∀x,X x->x<w.heap.size
structure ahg (w w':World) (lo:Nat) (L:List cu->Option Nat):Prop where
 os:w'.os=w.os
 tape:w'.tape=w.tape
 output:w'.output=w.output
 size:w.heap.size<=w'.heap.size
 low:∀x,x<lo->w'.heap[x]?=w.heap[x]?
 block:∀x,x<w.heap.size->(∀cs,¬dh w x 112 cs)->(∀ks,L ks≠some x)->w'.heap[x]?=w.heap[x]?
theorem Wv (ks:List cu) (c:cu):ahf (ks++[c])=c:=by
 unfold ahf
 rw[List.getLastD_eq_getLast?]
 simp
theorem Pq (C:List cu->Option Nat) (ks:List cu) (c:cu):aff C (ks++[c])=C ks:=by
 unfold aff
 rw[if_neg (by simp)]
 simp
theorem al6 (ks:List cu) (h:ks≠[]):∃Ej c,ks=Ej++[c]:=by
 rcases List.eq_nil_or_concat ks with h'|⟨Ej,c,h'⟩
 ·exact absurd h' h
 ·exact⟨Ej,c,by rw[h'];simp⟩
theorem Trie.below {w w':World} {lo:Nat} {X:Nat->Prop} {C L:List cu->Option Nat} {N:Nat} (h:Trie w lo X C L N) (hb:Below w.heap.size w w'):Trie w' lo X C L N where
 inj:=h.inj
 ab9:=h.ab9
 acd:=h.acd
 up:=h.up
 blk ks b hk:=⟨(h.blk ks b hk).1.below hb (h.blk ks b hk).1.lt,(h.blk ks b hk).2⟩
 map ks M hk:=⟨(h.map ks M hk).1.block (hb.block M (h.map ks M hk).1.lt),(h.map ks M hk).2⟩
 old x hx:=Nat.lt_of_lt_of_le (h.old x hx) hb.size
theorem dh.grown' {w w':World} {b:Nat} {T:TypeId} {cs:Array Value} {row:Option Nat} (h:dh w b T cs) (hg:w.grownBy w' row) (hne:some b≠row):dh w' b T cs:=(hg.block b h.lt hne).trans h
theorem I9.mono {P:Program} {k:TypeId} {α:Type} {E:aod P k α} {z:Value} {w:World} {b n n':Nat} {f:α->Value} (h:I9 E z w b n f) (hn:n<=n'):I9 E z w b n' f:=by
 obtain⟨D,h,h5⟩:=h
 exact⟨D,h.mono hn,h5⟩
def ckL (l:List cu):List (List UInt8 × Bool):=l.map fun c=>(c.name.data.toList,c.on)
theorem ckL_inj:∀ (a b:List cu),ckL a=ckL b->a=b
 | [],[],_=>rfl
 | [],_ :: _,h=>by cases h
 | _ :: _,[],h=>by cases h
 | x :: a,y :: b,h=>by
  simp only [ckL,List.map_cons,List.cons.injEq,Prod.mk.injEq] at h
  have h1:x=y:=by
   cases x; cases y
   simp only [cu.mk.injEq]
   exact ⟨ByteArray.ext (Array.toList_inj.1 h.1.1),h.1.2⟩
  rw [h1,ckL_inj a b h.2]
def dcL (a b:List cu):Decidable (a=b):=if h:ckL a=ckL b then .isTrue (ckL_inj a b h) else .isFalse (fun e=>h (by rw [e]))
def Gt (L:List cu->Option Nat) (ks:List cu) (M:Nat):List cu->Option Nat:=fun x=>@ite _ (x=ks) (dcL x ks) (some M) (L x)
theorem Trie.mkMap {w:World} {lo:Nat} {X:Nat->Prop} {C L:List cu->Option Nat} {N:Nat} (h:Trie w lo X C L N) {ks:List cu} {b:Nat} (hk:C ks=some b) (hl:L ks=none) (hlo:lo<=w.heap.size) :
  Trie ((w.alloc (.map #[] 0)).setCell ⟨b,4,none⟩ (.map (some w.heap.size))) lo X C (Gt L ks w.heap.size) N:=by
 have hbl:=(h.blk ks b hk).1
 have hne:b≠w.heap.size:=Nat.ne_of_lt hbl.lt
 have hnone:∀c,C (ks++[c])=none:=fun c=>by
  cases hc:C (ks++[c]) with
  | none=>rfl
  | some q =>
   obtain⟨p,M,_,hM⟩:=h.up ks c q hc
   rw[hl] at hM
   cases hM
 have hal:Below w.heap.size w (w.alloc (.map #[] 0)):=(Below.refl _ _).alloc (Nat.le_refl _) _
 refine⟨h.inj,fun qm ks2 q h1 h2=>?_,fun qm q h1=>?_,fun qm c q h1=>?_,fun qm q h1=>?_,fun qm M h1=>?_,fun x hx=>?_⟩
 ·unfold Gt at h1 h2
  split at h1<;>split at h2
  ·rename_i e1 e2;rw[e1,e2]
  ·rename_i e1 e2
   simp only[Option.some.injEq] at h1
   have:=(h.map ks2 q h2).1.lt
   omega
  ·rename_i e1 e2
   simp only[Option.some.injEq] at h2
   have:=(h.map qm q h1).1.lt
   omega
  ·exact h.ab9 qm ks2 q h1 h2
 ·unfold Gt at h1
  split at h1
  ·rename_i e;rw[e];exact⟨b,hk⟩
  ·exact h.acd qm q h1
 ·obtain⟨p,M,r1,r2⟩:=h.up qm c q h1
  have hn:qm≠ks:=fun e=>by subst e;rw[hnone c] at h1;cases h1
  exact⟨p,M,r1,by unfold Gt;rw[if_neg hn];exact r2⟩
 ·obtain⟨r1,r2⟩:=h.blk qm q h1
  refine⟨?_,r2⟩
  by_cases e:qm=ks
  ·subst e
   rw[hk] at h1
   simp only[Option.some.injEq] at h1
   subst h1
   have:=(hbl.below hal hbl.lt).set 4 (.map (some w.heap.size))
   unfold Ai at this ⊢
   rw[show Gt L qm w.heap.size qm=some w.heap.size from by unfold Gt;rw[if_pos rfl]]
   simpa using this
  ·have hq:q≠b:=fun e2=>by subst e2;exact e (h.inj qm ks q h1 hk)
   have r3:=r1.below hal r1.lt
   unfold dh at r3 ⊢
   rw[Below.heap_setCell _ _ _ _ (by simpa using hq),r3]
   unfold Ai
   rw[show Gt L ks w.heap.size qm=L qm from by unfold Gt;rw[if_neg e]]
 ·unfold Gt at h1
  by_cases e:qm=ks
  ·subst e
   rw[if_pos rfl] at h1
   simp only[Option.some.injEq] at h1
   subst h1
   refine⟨?_,hlo,fun hx=>by have:=h.old _ hx;omega⟩
   have hm:I9 amd (.pointer none) (w.alloc (.map #[] 0)) w.heap.size 0 (fun _=>.pointer none):=I9.made w
   have hm2:=(hm.block (w':=(w.alloc (.map #[] 0)).setCell ⟨b,4,none⟩ (.map (some w.heap.size))) (by rw[Below.heap_setCell _ _ _ _ (by simpa using fun e:w.heap.size=b=>hne e.symm)])).mono (Nat.zero_le N)
   have e2:(fun c=>Xn (C (qm++[c])))=(fun _=>(.pointer none:Value)):=by
    funext c
    rw[hnone c]
    rfl
   rw[e2]
   exact hm2
  ·rw[if_neg e] at h1
   obtain⟨r1,r2,r3⟩:=h.map qm M h1
   have hMb:M≠b:=fun e2=>by
    subst e2
    have:=r1.Qq 0
    rw[hbl.cell (i:=0) rfl] at this
    cases this
   exact⟨r1.block (by rw[Below.heap_setCell _ _ _ _ (by simpa using hMb)];exact hal.block M r1.lt),r2,r3⟩
 ·have:=h.old x hx
  simp only[World.setCell]
  simp
  omega
theorem J9 (L:List cu->Option Nat) (ks:List cu) (M:Nat):Gt L ks M ks=some M:=by unfold Gt;rw[if_pos rfl]
theorem Dj (L:List cu->Option Nat) (ks:List cu) (M:Nat) (x:List cu) (h:x≠ks):Gt L ks M x=L x:=by unfold Gt;rw[if_neg h]
theorem adh {a b:List cu} {c d:cu} (h:a++[c]=b++[d]):a=b∧c=d:=by
 have:=List.append_inj' h rfl
 simpa using this
def Nr (b:Nat) (ks:List cu) (c:cu):Array Value:=#[.pointer (some ⟨b,0,none⟩),.string c.name,.bool c.on,.int .i64 ((ks.length:Int)+1),.map none,.int .i64 0,.slice none 0 0]
theorem Trie.add {w:World} {lo:Nat} {X:Nat->Prop} {C L:List cu->Option Nat} {N:Nat} (h:Trie w lo X C L N) {ks:List cu} {b M:Nat} {c:cu} (hk:C ks=some b) (hM:L ks=some M) (hc:C (ks++[c])=none) (hok:c.name.size<=maxLen) (hN:N<maxLen) (hlo:lo<=w.heap.size) :
  ∃w2,(Instr.mapUpdate 110 (.map (some M)) (Ue c) (.pointer (some ⟨w.heap.size,0,none⟩))).run Tryz.prog (w.alloc (.cells (Nr b ks c) 112))=.ok () w2∧Trie w2 lo X (Gt C (ks++[c]) w.heap.size) L (N+1)∧w.grownBy w2 (some M):=by
 obtain⟨hm,a5w,hMX⟩:=h.map ks M hM
 have hal:Below w.heap.size w (w.alloc (.cells (Nr b ks c) 112)):=(Below.refl _ _).alloc (Nat.le_refl _) _
 obtain⟨w2,f',hrun,hM2,hfc,hfo,hg⟩:=(hm.block (hal.block M hm.lt)).store (t:=110) Tryz.underlying110 hN hok (.pointer (some ⟨w.heap.size,0,none⟩))
 have hLn:L (ks++[c])=none:=by
  cases hl:L (ks++[c]) with
  | none=>rfl
  | some q =>
   obtain⟨p,hp⟩:=h.acd _ _ hl
   rw[hc] at hp
   cases hp
 have hg':w.grownBy w2 (some M):=C9 (World.grownBy_alloc w _ _) hg
 have hsz:(w.alloc (.cells (Nr b ks c) 112)).heap.size=w.heap.size+1:=by simp
 refine⟨w2,hrun,⟨fun k1 k2 q h1 h2=>?_,h.ab9,fun k1 q h1=>?_,fun k1 d q h1=>?_,fun k1 q h1=>?_,fun k1 M1 h1=>?_,fun x hx=>?_⟩,hg'⟩
 ·by_cases e1:k1=ks++[c]
  ·by_cases e2:k2=ks++[c]
   ·rw[e1,e2]
   ·rw[Dj _ _ _ _ e2] at h2
    rw[e1,J9] at h1
    simp only[Option.some.injEq] at h1
    have:=(h.blk k2 q h2).1.lt
    omega
  ·rw[Dj _ _ _ _ e1] at h1
   by_cases e2:k2=ks++[c]
   ·rw[e2,J9] at h2
    simp only[Option.some.injEq] at h2
    have:=(h.blk k1 q h1).1.lt
    omega
   ·rw[Dj _ _ _ _ e2] at h2
    exact h.inj k1 k2 q h1 h2
 ·obtain⟨p,hp⟩:=h.acd k1 q h1
  by_cases e1:k1=ks++[c]
  ·exact⟨_,by rw[e1,J9]⟩
  ·exact⟨p,by rw[Dj _ _ _ _ e1];exact hp⟩
 ·have key:∀p,C k1=some p->Gt C (ks++[c]) w.heap.size k1=some p:=fun p hp=>by
   rw[Dj _ _ _ _ (fun e=>by rw[e,hc] at hp;cases hp)]
   exact hp
  by_cases e1:k1++[d]=ks++[c]
  ·obtain⟨rfl,rfl⟩:=adh e1
   exact⟨b,M,key b hk,hM⟩
  ·rw[Dj _ _ _ _ e1] at h1
   obtain⟨p,M1,r1,r2⟩:=h.up k1 d q h1
   exact⟨p,M1,key p r1,r2⟩
 ·by_cases e1:k1=ks++[c]
  ·rw[e1,J9] at h1
   simp only[Option.some.injEq] at h1
   subst h1
   refine⟨?_,hlo⟩
   have hne:some w.heap.size≠some M:=by
    simp only[ne_eq,Option.some.injEq]
    have:=hm.lt
    omega
   have hb2:=(jd w (Nr b ks c) 112).grown' hg hne
   rw[e1]
   have ec:Ai (Gt C (ks++[c]) w.heap.size) L (ks++[c])=Nr b ks c:=by
    unfold Ai Nr
    rw[Wv,Pq,hLn,Dj _ _ _ _ (by intro e;have:=congrArg List.length e;simp at this),hk,List.length_append]
    simp[Xn]
   rw[ec]
   exact hb2
  ·rw[Dj _ _ _ _ e1] at h1
   obtain⟨r1,r2⟩:=h.blk k1 q h1
   have hne:some q≠some M:=by
    simp only[ne_eq,Option.some.injEq]
    intro e
    subst e
    have:=hm.Qq 0
    rw[r1.cell (i:=0) rfl] at this
    cases this
   refine⟨?_,r2⟩
   have r3:=r1.grown' hg' hne
   have ec:Ai (Gt C (ks++[c]) w.heap.size) L k1=Ai C L k1:=by
    unfold Ai
    have:aff (Gt C (ks++[c]) w.heap.size) k1=aff C k1:=by
     by_cases hn:k1=[]
     ·unfold aff;rw[if_pos hn,if_pos hn]
     ·obtain⟨k0,d,rfl⟩:=al6 k1 hn
      rw[Pq,Pq,Dj]
      intro e
      obtain⟨p,M1,hp,_⟩:=h.up k0 d q h1
      rw[e,hc] at hp
      cases hp
    rw[this]
   rw[ec]
   exact r3
 ·obtain⟨r1,r2,r3⟩:=h.map k1 M1 h1
  refine⟨?_,r2,r3⟩
  by_cases e1:k1=ks
  ·subst e1
   rw[hM] at h1
   simp only[Option.some.injEq] at h1
   subst h1
   have ef:f'=fun d=>Xn (Gt C (k1++[c]) w.heap.size (k1++[d])):=by
    funext d
    by_cases e:d=c
    ·subst e
     rw[hfc,J9]
     rfl
    ·rw[hfo d e,Dj _ _ _ _ (fun e2=>e (adh e2).2)]
   rw[←ef]
   exact hM2
  ·have hne:some M1≠some M:=by
    simp only[ne_eq,Option.some.injEq]
    intro e
    subst e
    exact e1 (h.ab9 k1 ks M1 h1 hM)
   have ef:(fun d=>Xn (Gt C (ks++[c]) w.heap.size (k1++[d])))=fun d=>Xn (C (k1++[d])):=by
    funext d
    rw[Dj _ _ _ _ (fun e2=>e1 (adh e2).1)]
   rw[ef]
   exact(r1.block (hg'.block M1 r1.lt hne)).mono (Nat.le_succ _)
 ·have:=h.old x hx
  have:=hg'.size
  omega
structure Grow (lo:Nat) (w:World) (C L:List cu->Option Nat) (w':World) (C' L':List cu->Option Nat):Prop where
 keep:ahg w w' lo L
 c:∀k q,C k=some q->C' k=some q
 l:∀k q,L k=some q->L' k=some q
 ln:∀k q,L' k=some q->L k=some q∨w.heap.size<=q
theorem ahg.of_below {w w':World} {lo:Nat} {L:List cu->Option Nat} (h:Below w.heap.size w w') (hlo:lo<=w.heap.size):ahg w w' lo L:=⟨h.os,h.tape,h.output,h.size,fun x hx=>h.block x (Nat.lt_of_lt_of_le hx hlo),fun x hx _ _=>h.block x hx⟩
theorem Grow.of_below {w w':World} {lo:Nat} {C L:List cu->Option Nat} (h:Below w.heap.size w w') (hlo:lo<=w.heap.size):Grow lo w C L w' C L:=⟨ahg.of_below h hlo,fun _ _ h=>h,fun _ _ h=>h,fun _ _ h=>Or.inl h⟩
theorem Grow.trans {lo:Nat} {w w1 w2:World} {C L C1 L1 C2 L2:List cu->Option Nat} (h:Grow lo w C L w1 C1 L1) (k:Grow lo w1 C1 L1 w2 C2 L2):Grow lo w C L w2 C2 L2:=by
 refine⟨⟨k.keep.os.trans h.keep.os,k.keep.tape.trans h.keep.tape,k.keep.output.trans h.keep.output,Nat.le_trans h.keep.size k.keep.size,fun x hx=>(k.keep.low x hx).trans (h.keep.low x hx),fun x hx h1 h2=>?_⟩,fun a q h1=>k.c a q (h.c a q h1),fun a q h1=>k.l a q (h.l a q h1),fun a q h1=>?_⟩
 ·have e:=h.keep.block x hx h1 h2
  refine(k.keep.block x (Nat.lt_of_lt_of_le hx h.keep.size) (fun cs h3=>h1 cs (e.symm.trans h3)) (fun ks h3=>?_)).trans e
  rcases h.ln ks x h3 with h4|h4
  ·exact h2 ks h4
  ·omega
 ·rcases k.ln a q h1 with h2|h2
  ·exact h.ln a q h2
  ·exact Or.inr (Nat.le_trans h.keep.size h2)
theorem Grow.add {lo:Nat} {w w2:World} {X:Nat->Prop} {C L:List cu->Option Nat} {N:Nat} (h:Trie w lo X C L N) {ks:List cu} {M:Nat} {c:cu} (hM:L ks=some M) (hc:C (ks++[c])=none) (hg:w.grownBy w2 (some M)) (p:Nat):Grow lo w C L w2 (Gt C (ks++[c]) p) L:=by
 have hMl:=(h.map ks M hM).2.1
 refine⟨⟨hg.os,hg.tape,hg.output,hg.size,fun x hx=>?_,fun x hx _ h2=>hg.block x hx (fun e=>by simp only[Option.some.injEq] at e;subst e;exact h2 ks hM)⟩,fun a q h1=>?_,fun _ _ h=>h,fun _ _ h=>Or.inl h⟩
 ·have hm:=(h.map ks M hM).1.lt
  exact hg.block x (by omega) (fun e=>by simp only[Option.some.injEq] at e;omega)
 ·rw[Dj _ _ _ _ (fun e=>by rw[e,hc] at h1;cases h1)]
  exact h1
theorem Grow.mkMap {lo:Nat} {w:World} {X:Nat->Prop} {C L:List cu->Option Nat} {N:Nat} (h:Trie w lo X C L N) {ks:List cu} {b:Nat} (hk:C ks=some b) (hl:L ks=none):Grow lo w C L ((w.alloc (.map #[] 0)).setCell ⟨b,4,none⟩ (.map (some w.heap.size))) C (Gt L ks w.heap.size):=by
 obtain⟨hb,hbl⟩:=h.blk ks b hk
 have hal:Below w.heap.size w (w.alloc (.map #[] 0)):=(Below.refl _ _).alloc (Nat.le_refl _) _
 refine⟨⟨rfl,rfl,rfl,by simp[World.setCell],fun x hx=>?_,fun x hx h1 _=>?_⟩,fun _ _ h=>h,fun a q h1=>?_,fun a q h1=>?_⟩
 ·have:=hb.lt
  rw[Below.heap_setCell _ _ _ _ (by simp only;omega)]
  exact hal.block x (by omega)
 ·rw[Below.heap_setCell _ _ _ _ (fun e=>h1 _ (by have e':x=b:=e;rw[e'];exact hb))]
  exact hal.block x hx
 ·rw[Dj _ _ _ _ (fun e=>by rw[e,hl] at h1;cases h1)]
  exact h1
 ·by_cases e:a=ks
  ·rw[e,J9] at h1
   simp only[Option.some.injEq] at h1
   exact Or.inr (by omega)
  ·rw[Dj _ _ _ _ e] at h1
   exact Or.inl h1
theorem jf {B:Nat} {a w:World} (h:Below B a w) (n:Nat):Below B a (w.drewN n):=⟨h.os,h.tape,h.output,h.size,h.block⟩
theorem ajn (M:Nat) (w:World):(binOp .eql 110 (.map (some M)) (.map none)).run Tryz.prog w=.ok (.bool false) w:=by kernel_rfl
theorem ald (w:World):(binOp .eql 110 (.map none) (.map none)).run Tryz.prog w=.ok (.bool true) w:=by kernel_rfl
theorem atr (w:World):(Instr.makeMap 110 none).run Tryz.prog w=.ok (.map (some w.heap.size)) (w.alloc (.map #[] 0)):=by kernel_rfl
def ajo (lo:Nat) (X:Nat->Prop) (C L:List cu->Option Nat) (N:Nat) (ks:List cu) (c:cu) (w:World) (e:Ending) (w':World):Prop :=
 ∃p C' L',e=.returned (.pointer (some ⟨p,0,none⟩))∧Trie w' lo X C' L' (N+1)∧C' (ks++[c])=some p∧Grow lo w C L w' C' L'
set_option maxRecDepth 20000 in
set_option maxHeartbeats 4000000 in
theorem afc (w:World) (lo:Nat) (X:Nat->Prop) (C L:List cu->Option Nat) (N:Nat) (h:Trie w lo X C L N) (ks:List cu) (b:Nat) (hk:C ks=some b) (c:cu) (hok:c.name.size<=maxLen) (hN:N<maxLen) (hlo:lo<=w.heap.size) (hkl:ks.length<=1000000) :
  Calls Tryz.prog 84 #[.pointer (some ⟨b,0,none⟩),Ue c] w (ajo lo X C L N ks c w):=by
 have hA:Below w.heap.size w (w.alloc (.cells #[.string c.name,.bool c.on] 94)):=(Below.refl _ _).alloc (Nat.le_refl _) _
 have HW:Hid (∀wq,Below w.heap.size w wq->Trie wq lo X C L N∧lo<=wq.heap.size∧Grow lo w C L wq C L):=fun wq hb=>⟨h.below hb,Nat.le_trans hlo hb.size,Grow.of_below hb hlo⟩
 have HA:=hide hA
 have tu:=hide (jd w #[.string c.name,.bool c.on] 94)
 have HK:=hide hk
 have HOK:=hide hok
 have HNN:=hide hN
 clear h hA hk hok hN hlo
 unfold Ue
 obtain⟨PO,l7⟩:∃PO:Ending->World->Prop,PO=ajo lo X C L N ks c w:=⟨_,rfl⟩
 rw[←l7]
 have qy:=hide l7
 clear l7
 obtain⟨h0,hlo0,_⟩:=uh HW _ (uh HA)
 obtain⟨hb0,_⟩:=h0.blk ks b (uh HK)
 have q3:=hb0.cell (i:=3) (v:=.int .i64 (ks.length:Int)) rfl
 have hwr:IntKind.i64.wrap ((ks.length:Int)+1)=(ks.length:Int)+1:=by
  rw[IntKind.wrap_i64]
  omega
 have bx0:=(uh tu).cell (i:=0) (v:=.string c.name) rfl
 have bx1:=(uh tu).cell (i:=1) (v:=.bool c.on) rfl
 cases hl:L ks with
 | none =>
  have q4:=hb0.cell (i:=4) (v:=.map none) (by unfold Ai;rw[hl];rfl)
  have z4:=hb0.free 4
  have hlt:=hb0.lt
  have heq:=ald
  have hmm:=atr
  have hc:C (ks++[c])=none:=by
   cases hc:C (ks++[c]) with
   | none=>rfl
   | some q =>
    obtain⟨p,M,_,hM⟩:=h0.up ks c q hc
    rw[hl] at hM
    cases hM
  obtain⟨w0,hw0⟩:∃z,z=w.alloc (.cells #[.string c.name,.bool c.on] 94):=⟨_,rfl⟩
  rw[←hw0] at h0 hlo0 hb0
  have ht1:=h0.mkMap (uh HK) hl hlo0
  have hg1:=Grow.mkMap h0 (uh HK) hl
  obtain⟨M,hM⟩:∃M,M=w0.heap.size:=⟨_,rfl⟩
  rw[←hM] at ht1 hg1
  obtain⟨wZ,Ve⟩:∃z,z=(w0.alloc (.map #[] 0)).setCell ⟨b,4,none⟩ (.map (some M)):=⟨_,rfl⟩
  rw[←Ve] at ht1 hg1
  obtain⟨LZ,hLZ⟩:∃z,z=Gt L ks M:=⟨_,rfl⟩
  rw[←hLZ] at ht1 hg1
  have HL:Hid (LZ ks=some M):=by rw[hLZ];exact hide (J9 _ _ _)
  have HC:=hide hc
  have HWZ:Hid (∀wq,Below wZ.heap.size wZ wq->Trie wq lo X C LZ N∧lo<=wq.heap.size∧Grow lo w C L wq C LZ):=fun wq hb=>by
   have hlz:lo<=wZ.heap.size:=Nat.le_trans hlo0 hg1.keep.size
   refine⟨ht1.below hb,Nat.le_trans hlz hb.size,?_⟩
   have h9:=(uh HW _ (uh HA)).2.2
   rw[←hw0] at h9
   exact(h9.trans hg1).trans (Grow.of_below hb hlz)
  have hlk:∀nq,(Instr.lookup 110 (.map (some M)) (.agg #[.string c.name,.bool c.on]) false).run Tryz.prog (wZ.drewN nq)=.ok (.pointer none) (wZ.drewN nq):=fun nq=>by
   have h1:=(uh HWZ _ (jf (Below.refl _ _) nq)).1
   have h9:=(h1.map ks M (uh HL)).1.look (t:=110) Tryz.underlying110 (by kernel_rfl) (a:=c) (uh HOK)
   rw[hc] at h9
   exact h9
  obtain⟨hz0,_⟩:=ht1.blk ks b (uh HK)
  have r3:=hz0.cell (i:=3) (v:=.int .i64 (ks.length:Int)) rfl
  have r4:=hz0.cell (i:=4) (v:=.map (some M)) (by unfold Ai;rw[uh HL];rfl)
  have hbx:=uh tu
  rw[←hw0] at hbx
  have hnb:w.heap.size≠b:=fun e=>by
   have h9:=hbx
   rw[e] at h9
   exact absurd (h9.symm.trans hb0) (by simp[Ai])
  have hbz:dh wZ w.heap.size 94 #[.string c.name,.bool c.on]:=by
   have h8:=hbx.below ((Below.refl w0.heap.size w0).alloc (Nat.le_refl _) (.map #[] 0)) hbx.lt
   unfold dh at h8 ⊢
   rw[Ve,Below.heap_setCell _ _ _ _ (by simpa using hnb)]
   exact h8
  have s0:=hbz.cell (i:=0) (v:=.string c.name) rfl
  have s1:=hbz.cell (i:=1) (v:=.bool c.on) rfl
  have hMs:M=w.heap.size+1:=by rw[hM,hw0];simp
  have t4:((w.alloc (.cells #[.string c.name,.bool c.on] 94)).alloc (.map #[] 0)).cell? ⟨b,4,none⟩=some (.map none):=(((Below.refl _ (w.alloc (.cells #[.string c.name,.bool c.on] 94))).alloc (Nat.le_refl _) (.map #[] 0)).cell (p:=⟨b,4,none⟩) hlt).trans q4
  have tz:((w.alloc (.cells #[.string c.name,.bool c.on] 94)).alloc (.map #[] 0)).frozen? ⟨b,4,none⟩=false:=(((Below.refl _ (w.alloc (.cells #[.string c.name,.bool c.on] 94))).alloc (Nat.le_refl _) (.map #[] 0)).frozen (p:=⟨b,4,none⟩) hlt).trans z4
  rw[hw0] at Ve
  clear h0 hb0 hl hlo0 ht1 hg1 hz0 hbx hnb hbz hc hLZ tu HW hM hlt
  generalize hkn:ks.length=kn at *
  have HKN:=hide hkn
  have HMS:=hide hMs
  have a3a:=hide Ve
  clear hkn hMs Ve hw0
  go_enter Tryz.func84,Tryz.ntmps84
  go_wp2_with fail
  have Ve:=uh a3a
  clear q3 q4 bx0 bx1 t4 tz z4
  have q3:=r3
  have q4:=r4
  have bx0:=s0
  have bx1:=s1
  clear r3 r4 s0 s1
  rw[←uh HMS]
  rw[←Ve]
  clear Ve
  go_quiet ((fail))
  go_wp2_with fail
  have Og:=hide (jf (Below.refl wZ.heap.size wZ) nq)
  obtain⟨wA,hwA⟩:∃z,z=wZ.drewN nq:=⟨_,rfl⟩
  have a3:wA.cell? ⟨b,3,none⟩=some (.int .i64 (kn:Int)):=by rw[hwA];exact q3
  have a4:wA.cell? ⟨b,4,none⟩=some (.map (some M)):=by rw[hwA];exact q4
  have x0:wA.cell? ⟨w.heap.size,0,none⟩=some (.string c.name):=by rw[hwA];exact bx0
  have x1:wA.cell? ⟨w.heap.size,1,none⟩=some (.bool c.on):=by rw[hwA];exact bx1
  rw[←hwA] at Og ⊢
  clear hwA q3 q4 bx0 bx1 hlk
  go_region_held3 (fun w'=>w'.cell? ⟨b,3,none⟩=some (.int .i64 (kn:Int))∧w'.cell? ⟨b,4,none⟩=some (.map (some M))∧w'.cell? ⟨w.heap.size,0,none⟩=some (.string c.name)∧w'.cell? ⟨w.heap.size,1,none⟩=some (.bool c.on)) (go_keep) (fail)
  obtain⟨ht,ajp,Qp⟩:=uh HWZ wA.drew.drew (uh Og).drew.drew
  obtain⟨w2,hrun,ht2,hg2⟩:=ht.add (uh HK) (uh HL) (uh HC) (uh HOK) (uh HNN) ajp
  have adi:=(ht.map ks M (uh HL)).1
  unfold Nr Ue at hrun
  rw[uh HKN] at hrun
  have HPF:Hid (PO (.returned (.pointer (some ⟨wA.heap.size,0,none⟩))) w2):=by
   rw[uh qy]
   exact hide ⟨_,_,LZ,rfl,ht2,J9 _ _ _,Qp.trans (Grow.add ht (uh HL) (uh HC) hg2 _)⟩
  have hbM:b≠M:=fun e=>by
   have h9:=adi.Qq 3
   rw[←e] at h9
   have a3':wA.drew.drew.cell? ⟨b,3,none⟩=some (.int .i64 (kn:Int)):=a3
   rw[h9] at a3'
   cases a3'
  have hxM:w.heap.size≠M:=fun e=>by
   have h9:=adi.Qq 0
   rw[←e] at h9
   have a3':wA.drew.drew.cell? ⟨w.heap.size,0,none⟩=some (.string c.name):=x0
   rw[h9] at a3'
   cases a3'
  have hcl:∀(g j:Nat) (v:Value),g≠M->wA.cell? ⟨g,j,none⟩=some v->w2.cell? ⟨g,j,none⟩=some v:=fun g j v hne hv=>by
   rw[World.cell?_of_block (w:=wA) (a:=⟨g,j,none⟩) (hg2.block g (World.block_lt_of_cell? wA _ hv) (fun e=>by simp only[Option.some.injEq] at e;exact hne e))]
   exact hv
  have HS2:Hid (w2.cell? ⟨b,4,none⟩=some (.map (some M))∧w2.cell? ⟨w.heap.size,0,none⟩=some (.string c.name)∧w2.cell? ⟨w.heap.size,1,none⟩=some (.bool c.on)):=⟨hcl _ _ _ hbM a4,hcl _ _ _ hxM x0,hcl _ _ _ hxM x1⟩
  obtain⟨wB,hwB⟩:∃z,z=(wA.alloc (.cells #[.pointer (some ⟨b,0,none⟩),.string c.name,.bool c.on,.int .i64 ((kn:Int)+1),.map none,.int .i64 0,.slice none 0 0] 112)).drew:=⟨_,rfl⟩
  have hrun2:(Instr.mapUpdate 110 (.map (some M)) (.agg #[.string c.name,.bool c.on]) (.pointer (some ⟨wA.heap.size,0,none⟩))).run Tryz.prog wB.drew=.ok () w2:=by
   rw[hwB]
   exact hrun
  have hal:∀(g j:Nat) (v:Value),wA.cell? ⟨g,j,none⟩=some v->wB.cell? ⟨g,j,none⟩=some v:=fun g j v hv=>by
   rw[hwB]
   exact(((Below.refl _ wA).alloc (Nat.le_refl _) _).cell (p:=⟨g,j,none⟩) (World.block_lt_of_cell? wA _ hv)).trans hv
  have b4:=hal _ _ _ a4
  have y0:=hal _ _ _ x0
  have y1:=hal _ _ _ x1
  clear hrun ht ht2 hg2 Qp ajp adi hbM hxM hcl hal a3 a4 x0 x1
  go_wp2_with fail
  rw[←hwB]
  clear hwB
  go_region_held3 (fun w'=>w'.cell? ⟨b,4,none⟩=some (.map (some M))∧w'.cell? ⟨w.heap.size,0,none⟩=some (.string c.name)∧w'.cell? ⟨w.heap.size,1,none⟩=some (.bool c.on)) (first|exact uh HS2|go_keep) (fail)
  go_wp2
  exact uh HPF
 | some M =>
  have q4:=hb0.cell (i:=4) (v:=.map (some M)) (by unfold Ai;rw[hl];rfl)
  have heq:=ajn M
  have HL:=hide hl
  have azg:=HW
  obtain⟨wZ,Ve⟩:∃z,z=w.alloc (.cells #[.string c.name,.bool c.on] 94):=⟨_,rfl⟩
  obtain⟨LZ,hLZ⟩:∃z,z=L:=⟨_,rfl⟩
  have HBZ:Hid (Below w.heap.size w wZ):=by rw[Ve];exact HA
  have hlk:∀nq,(Instr.lookup 110 (.map (some M)) (.agg #[.string c.name,.bool c.on]) false).run Tryz.prog (wZ.drewN nq)=.ok (Xn (C (ks++[c]))) (wZ.drewN nq):=fun nq=>by
   have h1:=(uh HW _ (jf (uh HBZ) nq)).1
   exact(h1.map ks M hl).1.look (t:=110) Tryz.underlying110 (by kernel_rfl) (a:=c) (uh HOK)
  have HWZ:Hid (∀wq,Below wZ.heap.size wZ wq->Trie wq lo X C LZ N∧lo<=wq.heap.size∧Grow lo w C L wq C LZ):=fun wq hb=>by
   rw[hLZ]
   exact uh HW wq ((uh HBZ).trans (hb.mono (uh HBZ).size))
  cases hc:C (ks++[c]) with
  | none =>
   rw[hc] at hlk
   unfold Xn at hlk
   rw[Option.map_none] at hlk
   have HC:=hide hc
   rw[←hLZ] at HL
   clear h0 hb0 hl hc
   generalize hkn:ks.length=kn at *
   have HKN:=hide hkn
   clear hkn azg HW tu HA hlo0
   go_enter Tryz.func84,Tryz.ntmps84
   go_wp2_with fail
   rw[←Ve] at q3 q4 bx0 bx1
   rw[←Ve]
   clear Ve
   go_quiet ((fail))
   go_wp2_with fail
   have Og:=hide (jf (Below.refl wZ.heap.size wZ) nq)
   obtain⟨wA,hwA⟩:∃z,z=wZ.drewN nq:=⟨_,rfl⟩
   have a3:wA.cell? ⟨b,3,none⟩=some (.int .i64 (kn:Int)):=by rw[hwA];exact q3
   have a4:wA.cell? ⟨b,4,none⟩=some (.map (some M)):=by rw[hwA];exact q4
   have x0:wA.cell? ⟨w.heap.size,0,none⟩=some (.string c.name):=by rw[hwA];exact bx0
   have x1:wA.cell? ⟨w.heap.size,1,none⟩=some (.bool c.on):=by rw[hwA];exact bx1
   rw[←hwA] at Og ⊢
   clear hwA q3 q4 bx0 bx1 hlk
   go_region_held3 (fun w'=>w'.cell? ⟨b,3,none⟩=some (.int .i64 (kn:Int))∧w'.cell? ⟨b,4,none⟩=some (.map (some M))∧w'.cell? ⟨w.heap.size,0,none⟩=some (.string c.name)∧w'.cell? ⟨w.heap.size,1,none⟩=some (.bool c.on)) (go_keep) (fail)
   obtain⟨ht,ajp,Qp⟩:=uh HWZ wA.drew.drew (uh Og).drew.drew
   obtain⟨w2,hrun,ht2,hg2⟩:=ht.add (uh HK) (uh HL) (uh HC) (uh HOK) (uh HNN) ajp
   have adi:=(ht.map ks M (uh HL)).1
   unfold Nr Ue at hrun
   rw[uh HKN] at hrun
   have HPF:Hid (PO (.returned (.pointer (some ⟨wA.heap.size,0,none⟩))) w2):=by
    rw[uh qy]
    exact hide ⟨_,_,LZ,rfl,ht2,J9 _ _ _,Qp.trans (Grow.add ht (uh HL) (uh HC) hg2 _)⟩
   have hbM:b≠M:=fun e=>by
    have h9:=adi.Qq 3
    rw[←e] at h9
    have a3':wA.drew.drew.cell? ⟨b,3,none⟩=some (.int .i64 (kn:Int)):=a3
    rw[h9] at a3'
    cases a3'
   have hxM:w.heap.size≠M:=fun e=>by
    have h9:=adi.Qq 0
    rw[←e] at h9
    have a3':wA.drew.drew.cell? ⟨w.heap.size,0,none⟩=some (.string c.name):=x0
    rw[h9] at a3'
    cases a3'
   have hcl:∀(g j:Nat) (v:Value),g≠M->wA.cell? ⟨g,j,none⟩=some v->w2.cell? ⟨g,j,none⟩=some v:=fun g j v hne hv=>by
    rw[World.cell?_of_block (w:=wA) (a:=⟨g,j,none⟩) (hg2.block g (World.block_lt_of_cell? wA _ hv) (fun e=>by simp only[Option.some.injEq] at e;exact hne e))]
    exact hv
   have HS2:Hid (w2.cell? ⟨b,4,none⟩=some (.map (some M))∧w2.cell? ⟨w.heap.size,0,none⟩=some (.string c.name)∧w2.cell? ⟨w.heap.size,1,none⟩=some (.bool c.on)):=⟨hcl _ _ _ hbM a4,hcl _ _ _ hxM x0,hcl _ _ _ hxM x1⟩
   obtain⟨wB,hwB⟩:∃z,z=(wA.alloc (.cells #[.pointer (some ⟨b,0,none⟩),.string c.name,.bool c.on,.int .i64 ((kn:Int)+1),.map none,.int .i64 0,.slice none 0 0] 112)).drew:=⟨_,rfl⟩
   have hrun2:(Instr.mapUpdate 110 (.map (some M)) (.agg #[.string c.name,.bool c.on]) (.pointer (some ⟨wA.heap.size,0,none⟩))).run Tryz.prog wB.drew=.ok () w2:=by
    rw[hwB]
    exact hrun
   have hal:∀(g j:Nat) (v:Value),wA.cell? ⟨g,j,none⟩=some v->wB.cell? ⟨g,j,none⟩=some v:=fun g j v hv=>by
    rw[hwB]
    exact(((Below.refl _ wA).alloc (Nat.le_refl _) _).cell (p:=⟨g,j,none⟩) (World.block_lt_of_cell? wA _ hv)).trans hv
   have b4:=hal _ _ _ a4
   have y0:=hal _ _ _ x0
   have y1:=hal _ _ _ x1
   clear hrun ht ht2 hg2 Qp ajp adi hbM hxM hcl hal a3 a4 x0 x1
   go_wp2_with fail
   rw[←hwB]
   clear hwB
   go_region_held3 (fun w'=>w'.cell? ⟨b,4,none⟩=some (.map (some M))∧w'.cell? ⟨w.heap.size,0,none⟩=some (.string c.name)∧w'.cell? ⟨w.heap.size,1,none⟩=some (.bool c.on)) (first|exact uh HS2|go_keep) (fail)
   go_wp2
   exact uh HPF
  | some p =>
   rw[hc] at hlk
   unfold Xn at hlk
   rw[Option.map_some] at hlk
   have gq:Hid (∀wq,Below wZ.heap.size wZ wq->PO (.returned (.pointer (some ⟨p,0,none⟩))) wq):=fun wq hb=>by
    obtain⟨h1,h2,h3⟩:=uh HW wq ((uh HBZ).trans (hb.mono (uh HBZ).size))
    rw[uh qy]
    exact⟨p,C,L,rfl,⟨h1.inj,h1.ab9,h1.acd,h1.up,h1.blk,fun k1 M1 e1=>⟨((h1.map k1 M1 e1).1).mono (Nat.le_succ _),(h1.map k1 M1 e1).2⟩,h1.old⟩,hc,h3⟩
   clear h0 hb0 hl hc HW qy HWZ azg
   go_enter Tryz.func84,Tryz.ntmps84
   go_wp2_with fail
   rw[←Ve] at q3 q4 bx0 bx1
   rw[←Ve]
   clear Ve
   go_quiet ((fail))
   go_wp2
   exact uh gq _ (jf (Below.refl _ _) _)
end Go.Proofs.YtflcnhfakcgkeaaGreat
