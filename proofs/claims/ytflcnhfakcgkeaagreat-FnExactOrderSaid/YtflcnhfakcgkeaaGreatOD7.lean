import Derived.Test.YtflcnhfakcgkeaaGreatOD5
import Derived.Test.YtflcnhfakcgkeaaGreatCS30
import Derived.Test.YtflcnhfakcgkeaaGreatCS23
import Derived.Test.YtflcnhfakcgkeaaGreatApp
namespace Go.Proofs.YtflcnhfakcgkeaaGreat
open Go.RowKit
set_option linter.unusedSimpArgs false
set_option linter.unusedVariables false
theorem aln {ns:List ay} {i:Nat} {x:ay} (ho:Okn ns i x) {k:Nat} (hk:k<x.eqs.length) {c:Nat->Nat->Nat} (hc:∀e g,e<x.eqs.length->g<x.eqs.length->(c e g≠0↔edN x e g)) {W:Nat->Int}
  (hW:∀e,e<x.eqs.length->W e=if Gn (su x k) (e:Int) then -1 else (Rz c x.eqs.length (su x k) e:Int)) :
  ∃e,e<x.eqs.length∧su x (k+1)=su x k++[(e:Int)]∧W e=0∧(∀j,j<e->W j≠0)∧∀j,j<x.eqs.length->(if j=e then -1 else W j)-(c j e:Int)=if Gn (su x (k+1)) (j:Int) then -1 else (Rz c x.eqs.length (su x (k+1)) j:Int):=by
 obtain⟨e,he,hp,hnd,hg,hmin⟩:=amk ho (su x k) (by rw[Jw];exact hk)
 have hor:su x (k+1)=su x k++[(e:Int)]:=by rw[su,hp]
 have hin:∀j:Nat,Gn (su x k) (j:Int)=true↔(j:Int)∈su x k:=fun j=>Hq _ _
 have hz:∀j,j<x.eqs.length->(Rz c x.eqs.length (su x k) j=0↔∀g,edN x j g->(g:Int)∈su x k):=fun j hj=>by
  rw[auh]
  constructor
  ·intro h g h9
   exact h g (ahj h9).2 ((hc j g hj (ahj h9).2).2 h9)
  ·intro h g hgl h9
   exact h g ((hc j g hj hgl).1 h9)
 refine⟨e,he,hor,?_,fun j hj=>?_,fun j hj=>?_⟩
 ·rw[hW e he,if_neg (fun h=>hnd ((hin e).1 h))]
  have h9:=(hz e he).2 hg
  omega
 ·have hjl:j<x.eqs.length:=by omega
  rw[hW j hjl]
  split
  ·decide
  ·rename_i hj9
   intro h8
   have h7:=hmin j hj
   rw[av8 x _ j hjl,Bool.and_eq_false_iff] at h7
   rcases h7 with h7|h7
   ·rw[Bool.not_eq_false'] at h7
    exact hj9 h7
   ·have h6:Rz c x.eqs.length (su x k) j=0:=by omega
    rw[(amj x j hjl _).2 ((hz j hjl).1 h6)] at h7
    cases h7
 ·have hcl:=aow ho k (by omega)
  rw[hor]
  by_cases c1:(j:Int)∈su x k++[(e:Int)]
  ·rw[if_pos ((Hq _ _).2 c1)]
   have h0:c j e=0:=by
    refine Classical.byContradiction fun h9=>?_
    have h8:=(hc j e hj he).1 h9
    rcases List.mem_append.1 c1 with h7|h7
    ·obtain⟨e',_,h6,h5⟩:=hcl _ h7
     have e9:j=e':=by omega
     subst e9
     exact hnd (h5 e h8)
    ·rw[List.mem_singleton] at h7
     have e9:j=e:=by omega
     subst e9
     exact hnd (hg j h8)
   rw[h0]
   rcases List.mem_append.1 c1 with h7|h7
   ·have hne:j≠e:=fun e9=>hnd (by rw[←e9];exact h7)
    rw[if_neg hne,hW j hj,if_pos ((hin j).2 h7)]
    rfl
   ·rw[List.mem_singleton] at h7
    rw[if_pos (by omega)]
    rfl
  ·have hnj:(j:Int)∉su x k:=fun h=>c1 (List.mem_append.2 (Or.inl h))
   have hne:j≠e:=fun e9=>c1 (List.mem_append.2 (Or.inr (by rw[List.mem_singleton,e9])))
   rw[if_neg (fun h=>c1 ((Hq _ _).1 h)),if_neg hne,hW j hj,if_neg (fun h=>hnj ((hin j).1 h))]
   have h9:=aui c (su x k) j e hnd x.eqs.length he
   omega
set_option maxHeartbeats 1000000 in
theorem aul (mb:Nat) (M:List Int) (w:World) (h:dh w mb 3 (M.map (Value.int .i64)).toArray) (k:Nat) (hk:k<M.length) (h0:uo M k=0) (hno:∀j,j<k->uo M j≠0) (hl:M.length<=1000) :
  Calls Tryz.prog 30 #[.slice (some ⟨mb,0,none⟩) M.length M.length,.int .i64 0] w fun e w'=>e=.returned (.int .i64 (k:Int))∧w'=w:=by
 have H:=hide h
 have jo:=hide hno
 clear h hno
 go_enter Tryz.func30,Tryz.ntmps30
 go_wp2
 go_loopg [8] M.length (fun g i wr=>∃(j:Nat),j<=k∧g=M.length-j∧i=.int .i64 j∧wr=w)
 case atStart=>exact⟨0,Nat.zero_le _,by omega,rfl,rfl⟩
 case round =>
  obtain⟨j,hj,hg,rfl,hwr⟩:=hrel
  rw[hwr]
  clear hwr
  have HG:=hide hg
  clear hg
  have hjl:j<M.length:=by omega
  have c0:=Ji (uh H) j hjl
  have hjI:(j:Int)<(M.length:Int):=by omega
  by_cases hjk:j=k
  ·subst hjk
   rw[h0] at c0
   clear h0
   go_wp2
   go_ret
   exact⟨rfl,rfl⟩
  ·have hz:=uh jo j (by omega)
   have d1:((0:Int) == uo M j)=false:=by
    rw[beq_eq_false_iff_ne]
    exact fun h=>hz h.symm
   have d2:¬((0:Int)=uo M j):=fun h=>hz h.symm
   have HJK:=hide hjk
   generalize uo M j=z at *
   clear hjk h0
   go_wp2
   go_roundg (M.length-(j+1))
   case measure =>
    have h9:=uh HG
    omega
   case rel=>exact⟨j+1,by have:=uh HJK;omega,rfl,by go_num,rfl⟩
end Go.Proofs.YtflcnhfakcgkeaaGreat
namespace Go.Proofs.YtflcnhfakcgkeaaGreat
open Go.RowKit Go.Shelf
set_option linter.unusedSimpArgs false
set_option linter.unusedVariables false
structure Gf (w:World) (lo mb rb n:Nat) (M:List Int) (rv:Nat->Value) (R:Nat->List Int):Prop where
 mrow:dh w mb 3 (M.map (Value.int .i64)).toArray
 Zf:M.length=n
 P6:dh w rb 26 ((List.range n).map rv).toArray
 own:∀g,g<n->iw mg w lo (rv g) (R g)
 sep:∀g h,g<n->h<n->g≠h->∀b,(rv g).ownBlock=some b->(rv h).ownBlock≠some b
 off:∀g,g<n->(rv g).ownBlock≠some mb
 lom:lo<=mb
 lor:lo<=rb
theorem Gf.below {w w':World} {lo mb rb n:Nat} {M:List Int} {rv:Nat->Value} {R:Nat->List Int} (h:Gf w lo mb rb n M rv R) (hb:Below w.heap.size w w'):Gf w' lo mb rb n M rv R :=
 ⟨h.mrow.below hb h.mrow.lt,h.Zf,h.P6.below hb h.P6.lt,fun g hg=>(h.own g hg).below hb,h.sep,h.off,h.lom,h.lor⟩
theorem Gf.cell {w:World} {lo mb rb n:Nat} {M:List Int} {rv:Nat->Value} {R:Nat->List Int} (h:Gf w lo mb rb n M rv R) (g:Nat) (hg:g<n):w.cell? ⟨rb,g,none⟩=some (rv g):=by
 refine h.P6.cell (i:=g) (v:=rv g) ?_
 simp[hg]
theorem Gf.ne {w:World} {lo mb rb n:Nat} {M:List Int} {rv:Nat->Value} {R:Nat->List Int} (h:Gf w lo mb rb n M rv R):mb≠rb:=fun e=>by
 have h1:=h.mrow
 rw[e] at h1
 exact Et h1 (by decide) h.P6
theorem Gf.Zg {w:World} {lo mb rb n:Nat} {M:List Int} {rv:Nat->Value} {R:Nat->List Int} (h:Gf w lo mb rb n M rv R) (g:Nat) (hg:g<n):(rv g).ownBlock≠some rb:=iw.Dn (h.own g hg) h.P6 (by decide)
theorem Gf.afx {w:World} {lo mb rb n:Nat} {M:List Int} {rv:Nat->Value} {R:Nat->List Int} (h:Gf w lo mb rb n M rv R) (j:Nat) (v:Int):Gf (w.setCell ⟨mb,j,none⟩ (.int .i64 v)) lo mb rb n (M.set j v) rv R:=by
 have same:∀k,k≠mb->(w.setCell ⟨mb,j,none⟩ (.int .i64 v)).heap[k]?=w.heap[k]?:=fun k hk=>Below.heap_setCell _ _ _ _ (by simpa using hk)
 refine⟨adb h.mrow j v,by rw[List.length_set];exact h.Zf,(same rb (fun e=>h.ne e.symm)).trans h.P6,fun g hg=>(h.own g hg).Dp (fun b hb=>same b (fun e=>?_)),h.sep,h.off,h.lom,h.lor⟩
 rw[e] at hb
 exact h.off g hg hb
theorem Gf.app {w w2:World} {lo mb rb n:Nat} {M:List Int} {rv:Nat->Value} {R:Nat->List Int} (h:Gf w lo mb rb n M rv R) (g:Nat) (hg:g<n) {v':Value} {xs:List Int} (hown:iw mg w2 lo v' xs) (hgr:w.grownBy w2 (rv g).ownBlock) (hnew:∀b,v'.ownBlock=some b->(rv g).ownBlock=some b∨w.heap.size<=b) :
  Gf (w2.setCell ⟨rb,g,none⟩ v') lo mb rb n M (fun k=>if k=g then v' else rv k) (fun k=>if k=g then xs else R k):=by
 have same:∀k,k≠rb->(w2.setCell ⟨rb,g,none⟩ v').heap[k]?=w2.heap[k]?:=fun k hk=>Below.heap_setCell _ _ _ _ (by simpa using hk)
 have hm2:w2.heap[mb]?=w.heap[mb]?:=hgr.block mb h.mrow.lt (h.off g hg).symm
 have hr2:dh w2 rb 26 ((List.range n).map rv).toArray:=(hgr.block rb h.P6.lt (h.Zg g hg).symm).trans h.P6
 have hlt:∀k,k<n->∀b,(rv k).ownBlock=some b->b<w.heap.size:=fun k hk b hb=>(World.ownsRow.lt (h.own k hk) b hb).2
 refine⟨(same mb h.ne).trans (hm2.trans h.mrow),h.Zf,?_,fun k hk=>?_,fun a b ha hb hab c hc=>?_,fun k hk=>?_,h.lom,h.lor⟩
 ·have h9:=hr2.set g v'
  have e:(((List.range n).map rv).toArray.setIfInBounds g v')=((List.range n).map (fun k=>if k=g then v' else rv k)).toArray:=by
   apply Array.ext
   ·simp
   ·intro i h1 h2
    simp at h1
    by_cases c:i=g
    ·subst c;simp
    ·rw[Array.getElem_setIfInBounds_ne (by simpa using h1) (Ne.symm c)]
     simp[c]
  rw[←e]
  exact h9
 ·by_cases c:k=g
  ·subst c
   simp only[if_true]
   exact hown.Dp (fun b hb=>same b (fun e=>by rw[e] at hb;exact iw.Dn hown hr2 (by decide) hb))
  ·simp only[if_neg c]
   refine(h.own k hk).Dp (fun b hb=>(same b (fun e=>by rw[e] at hb;exact h.Zg k hk hb)).trans (hgr.block b (hlt k hk b hb) (fun e=>?_)))
   exact h.sep g k hg hk (Ne.symm c) b e.symm hb
 ·by_cases ca:a=g
  ·subst ca
   have cb:¬b=a:=fun e=>hab e.symm
   simp only[if_true] at hc
   simp only[if_neg cb]
   rcases hnew c hc with h9|h9
   ·exact h.sep a b ha hb hab c h9
   ·intro h8
    have:=hlt b hb c h8
    omega
  ·simp only[if_neg ca] at hc
   by_cases cb:b=g
   ·subst cb
    simp only[if_true]
    intro h8
    rcases hnew c h8 with h9|h9
    ·exact h.sep b a hb ha (fun e=>ca e.symm) c h9 hc
    ·have:=hlt a ha c hc
     omega
   ·simp only[if_neg cb]
    exact h.sep a b ha hb hab c hc
 ·by_cases c:k=g
  ·subst c
   simp only[if_true]
   intro h8
   rcases hnew mb h8 with h9|h9
   ·exact h.off k hk h9
   ·have:=h.mrow.lt
    omega
  ·simp only[if_neg c]
   exact h.off k hk
theorem aoy (n:Nat):madeCells (Value.slice none 0 0).cells n=((List.range n).map (fun _=>Value.slice none 0 0)).toArray:=by
 apply Array.ext
 ·rw[size_madeCells];simp
 ·intro i h1 h2
  simp[madeCells,Nat.mod_one,Value.cells]
theorem Gf.start {w:World} {lo mb rb n:Nat} (h1:dh w mb 3 ((List.replicate n (0:Int)).map (Value.int .i64)).toArray) (h2:dh w rb 26 ((List.range n).map (fun _=>Value.slice none 0 0)).toArray) (hm:lo<=mb) (hr:lo<=rb) :
  Gf w lo mb rb n (List.replicate n 0) (fun _=>.slice none 0 0) (fun _=>[]) :=
 ⟨h1,List.length_replicate,h2,fun g _=>iw.nil w lo,fun _ _ _ _ _ b hb=>(by cases hb),fun _ _=>(by intro h;cases h),hm,hr⟩
end Go.Proofs.YtflcnhfakcgkeaaGreat
namespace Go.Proofs.YtflcnhfakcgkeaaGreat
open Go.RowKit Go.Shelf
set_option linter.unusedSimpArgs false
set_option linter.unusedVariables false
structure Bz (lo:Nat) (A B:World):Prop where
 os:B.os=A.os
 tape:B.tape=A.tape
 output:B.output=A.output
 size:A.heap.size<=B.heap.size
 low:∀k,k<lo->k<A.heap.size->B.heap[k]?=A.heap[k]?
 other:∀(k:Nat) (o:Obj),A.heap[k]?=some o->(∀cs z,o≠.cells cs 3 z)->(∀cs z,o≠.cells cs 26 z)->B.heap[k]?=some o
theorem Bz.refl (lo:Nat) (A:World):Bz lo A A:=⟨rfl,rfl,rfl,Nat.le_refl _,fun _ _ _=>rfl,fun _ _ h _ _=>h⟩
theorem Bz.trans {lo:Nat} {A B C:World} (h:Bz lo A B) (k:Bz lo B C):Bz lo A C :=
 ⟨k.os.trans h.os,k.tape.trans h.tape,k.output.trans h.output,Nat.le_trans h.size k.size,fun i h1 h2=>(k.low i h1 (Nat.lt_of_lt_of_le h2 h.size)).trans (h.low i h1 h2),fun i o h1 h2 h3=>k.other i o (h.other i o h1 h2 h3) h2 h3⟩
theorem Bz.J8 {lo:Nat} {A B:World} (h:Below A.heap.size A B):Bz lo A B :=
 ⟨h.os,h.tape,h.output,h.size,fun k _ h2=>h.block k h2,fun k o h1 _ _=>(h.block k (Array.getElem?_eq_some_iff.1 h1).1).trans h1⟩
theorem Bz.Tf {lo:Nat} {A B:World} {row:Option Nat} (h:A.grownBy B row) (hr:∀b,row=some b->lo<=b∧∃cs z,A.heap[b]?=some (.cells cs 3 z)∨A.heap[b]?=some (.cells cs 26 z)):Bz lo A B :=
 ⟨h.os,h.tape,h.output,h.size,fun k h1 h2=>h.block k h2 (fun e=>by have:=(hr k e.symm).1;omega),fun k o h1 h2 h3=>(h.block k (Array.getElem?_eq_some_iff.1 h1).1 (fun e=>by
  obtain⟨_,cs,z,h9|h9⟩:=hr k e.symm
  ·rw[h1] at h9
   exact h2 cs z (Option.some.inj h9)
  ·rw[h1] at h9
   exact h3 cs z (Option.some.inj h9))).trans h1⟩
theorem Bz.blk {lo:Nat} {A B:World} (h:Bz lo A B) {b T:Nat} {cs:Array Value} (hb:dh A b T cs) (h1:T≠3) (h2:T≠26):dh B b T cs :=
 h.other b _ hb (fun cs z e=>by simp only[Obj.cells.injEq] at e;exact h1 e.2.1) (fun cs z e=>by simp only[Obj.cells.injEq] at e;exact h2 e.2.1)
theorem Bz.kpM {lo:Nat} {A B:World} (h:Bz lo A B) (hlo:lo<=A.heap.size):Bv lo A B :=
 ⟨h.os,h.tape,h.output,h.size,fun k hk=>h.low k hk (by omega),fun k cs T z h1 h2 h3=>h.other k _ h3 (fun cs z e=>by simp only[Obj.cells.injEq] at e;exact h1 e.2.1) (fun cs z e=>by simp only[Obj.cells.injEq] at e;exact h2 e.2.1)⟩
theorem Bz.keeps {lo:Nat} {A B:World} (h:Bz lo A B) (k:Nat) (o:Obj) (h1:A.heap[k]?=some o) (hc:o.isCells=false):B.heap[k]?=some o :=
 h.other k o h1 (fun cs z e=>by rw[e] at hc;cases hc) (fun cs z e=>by rw[e] at hc;cases hc)
theorem Bz.map {lo:Nat} {A B:World} (h:Bz lo A B) {b:Nat} {es:Array MapEntry} {ck:Nat} (hb:A.heap[b]?=some (.map es ck)):B.heap[b]?=A.heap[b]?:=(h.keeps b _ hb rfl).trans hb.symm
theorem Sc.keep {W w w':World} {nv fz:Value} {vs:List gy} {G:List Int} {sb vb:Nat} {ov:Value} {D:List Nat} {C L:List cu->Option Nat} {N:Nat} (h:Sc W w nv fz vs G sb vb ov D C L N) (k:Bz W.heap.size w w'):Sc W w' nv fz vs G sb vb ov D C L N:=by
 refine⟨⟨k.os.trans h.old.os,k.tape.trans h.old.tape,k.output.trans h.old.output,Nat.le_trans h.old.size k.size,fun i hi=>(k.low i hi (Nat.lt_of_lt_of_le hi h.old.size)).trans (h.old.block i hi)⟩,h.trie.same k.size (fun ks b hk=>(k.blk (h.trie.blk ks b hk).1 (by decide) (by decide)).trans (h.trie.blk ks b hk).1.symm) (fun ks M hk=>?_),k.blk h.tq (by decide) (by decide),h.ord.Dp (fun b hb=>?_),h.Eh,fun j hj=>?_,h.inj,h.Zl,?_,h.slo,h.vlo⟩
 ·obtain⟨D9,⟨es,ck,h5,_⟩,_⟩:=(h.trie.map ks M hk).1
  exact k.map h5
 ·obtain⟨cur,hcur⟩:=h.ord.cellsOf hb
  exact(k.other b _ hcur (fun cs z e=>by simp only[Obj.cells.injEq] at e;exact absurd (show (74:Nat)=3 from e.2.1) (by decide)) (fun cs z e=>by simp only[Obj.cells.injEq] at e;exact absurd (show (74:Nat)=26 from e.2.1) (by decide))).trans hcur.symm
 ·obtain⟨cv,p,g1,g2,g3⟩:=h.decl j hj
  exact⟨cv,p,k.blk g1 (by decide) (by decide),g2,g3⟩
 ·obtain⟨n,f,g1,g2,g3⟩:=h.vars
  refine⟨n,f,g1,g2.block ?_,g3⟩
  obtain⟨D9,⟨es,ck,g4,_⟩,_⟩:=g2
  exact k.map g4
def aoz (D:Nat):Deferred:={ target:=.collected D,args:=#[] }
def N8 (lo:Nat) (Ds:List Nat) (w:World):Prop:=Ds.Nodup∧∀D,D∈Ds->lo<=D∧w.heap[D]?=some (.deferred (some []))
theorem N8.nil (lo:Nat) (w:World):N8 lo [] w:=⟨List.nodup_nil,fun D h=>by cases h⟩
theorem N8.keep {lo lo':Nat} {Ds:List Nat} {w w':World} (h:N8 lo Ds w) (k:Bz lo' w w'):N8 lo Ds w':=⟨h.1,fun D hD=>⟨(h.2 D hD).1,k.keeps D _ (h.2 D hD).2 rfl⟩⟩
theorem akj {F:Fence} {n:Nat} {P:Program} {fn:Func} {tmps:Array Value} {R:Ending->World->Prop} {lo:Nat}:∀(Ds:List Nat) (w:World),N8 lo Ds w->(∀w',(w'.os=w.os∧w'.tape=w.tape∧w'.output=w.output∧w.heap.size<=w'.heap.size∧∀k,k<w.heap.size->k∉Ds->w'.heap[k]?=w.heap[k]?)->LeavesInM F n P fn tmps R [] .returning w')->LeavesInM F n P fn tmps R (Ds.map aoz) .returning w:=by
 intro Ds
 induction Ds with
 | nil=>intro w _ h;exact h w ⟨rfl,rfl,rfl,Nat.le_refl _,fun _ _ _=>rfl⟩
 | cons D Ds ih =>
  intro w hm h
  have hD:=(hm.2 D (List.mem_cons_self ..)).2
  have hg:=grownBy_putObj' w D (.deferred none)
  refine⟨by simp[aoz],.inl ⟨D,_,rfl,run_takeDeferred hD,ih _ ⟨(List.nodup_cons.1 hm.1).2,fun E hE=>⟨(hm.2 E (List.mem_cons_of_mem _ hE)).1,?_⟩⟩ (fun w' ⟨a1,a2,a3,a4,a5⟩=>h w' ⟨a1.trans hg.os,a2.trans hg.tape,a3.trans hg.output,Nat.le_trans hg.size a4,fun k hk hn=>?_⟩)⟩⟩
  ·have hE9:=(hm.2 E (List.mem_cons_of_mem _ hE)).2
   refine(hg.block E (Array.getElem?_eq_some_iff.1 hE9).1 (fun e=>?_)).trans hE9
   have e9:=Option.some.inj e
   rw[e9] at hE
   exact(List.nodup_cons.1 hm.1).1 hE
  ·exact(a5 k (Nat.lt_of_lt_of_le hk hg.size) (fun h9=>hn (List.mem_cons_of_mem _ h9))).trans (hg.block k hk (fun e=>hn (by rw[Option.some.inj e];exact List.mem_cons_self ..)))
end Go.Proofs.YtflcnhfakcgkeaaGreat
namespace Go.Proofs.YtflcnhfakcgkeaaGreat
open Go.RowKit Go.Shelf
set_option linter.unusedSimpArgs false
set_option linter.unusedVariables false
theorem ao0 {l n:Nat} {P:Program} {ops:Array Oper} {Q:Exit->Act->World->Prop} {i:Nat} {K:Act->World->Prop} {a:Act} {w:World} (hd:∀(i:Nat) (o:Oper),ops[i]?=some o->∀c,o.op≠.defer c) (hno:¬LetsOut Q) (h:wpOp P ops Q i K a w):wpOpIn (Fence.wide.inRound l) n P ops Q i K a w:=by
 unfold wpOp at h
 unfold wpOpIn
 cases ho:ops[i]? with
 | none=>rw[ho] at h;exact h
 | some o =>
  rw[ho] at h
  simp only at h ⊢
  split
  ·rename_i hw
   rw[if_pos hw] at h
   rcases h with h|h
   ·refine⟨fun f _=>trivial,?_⟩
    rw[show (Fence.wide.inRound l).round=some l from rfl,Oper.semAt_some l _ o (hd i o ho)]
    unfold Oper.wp at h
    generalize (execOp a.eval o).run P w=r at h ⊢
    cases r with
    | ok x w' =>
     cases x with
     | enter f args=>exact⟨fun h9=>(by cases h9),callsIn_wide.2 h⟩
     | row row args=>exact⟨fun h9=>(by cases h9),fun c cs _=>let ⟨v,w9,r,s⟩:=h c cs;⟨v,w9,r,stepsIn_wide.2 s⟩⟩
     | round=>exact h.elim
     | _=>exact h
    | halt x w'=>cases x<;>exact h
   ·exact absurd h.2 hno
  ·rename_i hw
   rw[if_neg hw] at h
   exact⟨fun f _=>trivial,h⟩
theorem ab7 {l n:Nat} {P:Program} {md:Region.Mode} {ops:Array Oper} {Q:Exit->Act->World->Prop} (hd:∀(i:Nat) (o:Oper),ops[i]?=some o->∀c,o.op≠.defer c) (hno:¬LetsOut Q):∀(fuel:Nat) (listed:Array Bool) (a:Act) (w:World),wpAny P md ops Q fuel listed a w->wpAnyIn (Fence.wide.inRound l) n P md ops Q fuel listed a w
 | 0,_,_,_,h=>h
 | fuel+1,_,_,_,h=>⟨h.1,fun i hi=>wpOpIn_mono (fun a' w' h'=>ab7 hd hno fuel _ a' w' h') (ao0 hd hno (h.2 i hi))⟩
theorem akk {l n id:Nat} {P:Program} {ops:Array Oper} {Q:Exit->Act->World->Prop} {a:Act} {w:World} {S:World->Prop} (hm:P.follows .mixedOrders=true) (hd:∀(i:Nat) (o:Oper),ops[i]?=some o->∀c,o.op≠.defer c) (hno:¬LetsOut Q) (hS:S w.drew)
  (h:S w.drew->wpAnyH P .any ops Q S ops.size (Array.replicate ops.size false) a w.drew):(Code.region id ops true).wpIn (Fence.wide.inRound l) n P Q a w :=
 wpIn_region_any hm (ab7 hd hno _ _ _ _ (wpAny_of_held _ _ _ _ (h hS)))
end Go.Proofs.YtflcnhfakcgkeaaGreat
namespace Go.Proofs.YtflcnhfakcgkeaaGreat
open Go.RowKit Go.Shelf
set_option linter.unusedSimpArgs false
set_option linter.unusedVariables false
def Bd (c:Nat->Nat) (n:Nat):Nat:=((List.range n).map c).sum
structure RdI (x:ay) (G:List Int) (e B:Nat) (M:List Int) (R:Nat->List Int):Prop where
 ent:∀g,g<x.eqs.length->∀z,z∈R g->∃j:Nat,j<e∧z=(j:Int)
 cnt:∀j,j<e->∀g,g<x.eqs.length->((R g).count (j:Int)≠0↔D7 x G j g)
 wt:∀j,j<x.eqs.length->uo M j=((Bd (fun g=>(R g).count (j:Int)) x.eqs.length:Nat):Int)
 len:∀g,g<x.eqs.length->(R g).length<=B
theorem aq1 (n:Nat) {c:Nat->Nat} (h:∀g,g<n->c g=0):Bd c n=0:=by
 unfold Bd
 rw[akc]
 intro y hy
 obtain⟨g,hg,rfl⟩:=List.mem_map.1 hy
 exact h g (List.mem_range.1 hg)
theorem RdI.start (x:ay) (G:List Int):RdI x G 0 (0*2000000) (List.replicate x.eqs.length 0) (fun _=>[]):=by
 refine⟨fun g _ z hz=>(by cases hz),fun j hj=>absurd hj (Nat.not_lt_zero _),fun j hj=>?_,fun g _=>(by simp)⟩
 rw[aq1 _ (fun g _=>by simp)]
 unfold uo
 rw[List.getD_eq_getElem?_getD,List.getElem?_replicate,if_pos hj]
 rfl
structure azz (W0 w wE:World) (x:ay) (mb rb wb e:Nat) (Ds:List Nat) (M:List Int) (rv:Nat->Value) (R:Nat->List Int) (wr:World):Prop where
 sd:Gf wr w.heap.size mb rb x.eqs.length M rv R
 kp:Bz w.heap.size wE wr
 mks:N8 wE.heap.size Ds wr
 rd:RdI x (ru x (qx x) x.eqs.length) e (e*2000000) M R
 Z5:dh wr wb 26 #[.slice (some ⟨mb,0,none⟩) x.eqs.length x.eqs.length]
theorem aml (c:Nat->Nat) (B:Nat):∀n,(∀g,g<n->c g<=B)->Bd c n<=n*B:=by
 intro n
 induction n with
 | zero=>intro _;simp[Bd]
 | succ n ih =>
  intro h
  have h1:=ih (fun g hg=>h g (by omega))
  have h2:=h n (by omega)
  have h3:Bd c (n+1)=Bd c n+c n:=by
   unfold Bd
   rw[List.range_succ,List.map_append,List.sum_append]
   simp
  rw[h3,Nat.add_mul,Nat.one_mul]
  omega
theorem axf (c:Nat->Nat) (g0:Nat):∀n,g0<n->Bd (fun g=>if g=g0 then c g+1 else c g) n=Bd c n+1:=by
 have hs:∀(f:Nat->Nat) n,Bd f (n+1)=Bd f n+f n:=fun f n=>by
  unfold Bd
  rw[List.range_succ,List.map_append,List.sum_append]
  simp
 have hno:∀n,n<=g0->Bd (fun g=>if g=g0 then c g+1 else c g) n=Bd c n:=by
  intro n
  induction n with
  | zero=>intro _;rfl
  | succ n ih =>
   intro h
   rw[hs,hs,ih (by omega),if_neg (by omega)]
 intro n
 induction n with
 | zero=>intro h;omega
 | succ n ih =>
  intro h
  rw[hs,hs]
  by_cases e:n=g0
  ·rw[hno n (by omega),if_pos e]
   omega
  ·rw[ih (by omega),if_neg e]
   omega
structure RdP (x:ay) (G:List Int) (e:Nat) (M0:List Int) (R0:Nat->List Int) (M:List Int) (R:Nat->List Int) (cg:Nat->Nat):Prop where
 row:∀g,g<x.eqs.length->R g=R0 g++List.replicate (cg g) (e:Int)
 wt:∀j,j<x.eqs.length->uo M j=if j=e then ((Bd cg x.eqs.length:Nat):Int) else uo M0 j
 snd:∀g,g<x.eqs.length->cg g≠0->D7 x G e g
def SdJ (x:ay) (G:List Int) (w wL:World) (mb rb wb ebx e:Nat) (M0:List Int) (R0:Nat->List Int) {rd:List ByteArray} (pre:List (Rf rd)) (W:World):Prop :=
 ∃M rv R cg,Bz w.heap.size wL W∧Gf W w.heap.size mb rb x.eqs.length M rv R∧dh W wb 26 #[.slice (some ⟨mb,0,none⟩) x.eqs.length x.eqs.length]∧dh W ebx 3 #[.int .i64 (e:Int)]∧RdP x G e M0 R0 M R cg∧(∀y,y∈pre->∀v:Nat,G.getD (jc (aj x) y.1) 0=(v:Int)->cg v≠0)∧(∀g,g<x.eqs.length->cg g<=pre.length∧cg g<=2000000)∧∀g,g<x.eqs.length->(rv g).ownBlock≠some ebx
theorem Yj {W W':World} {row:Option Nat} {B:Nat} (hg:W.grownBy W' row) (hr:∀r,row=some r->B<=r∧∃o:Obj,W.heap[r]?=some o∧o.isCells=false) {k T:Nat} {cs:Array Value} {z:Nat × Nat} (h:W.heap[k]?=some (.cells cs T z)):W'.heap[k]?=W.heap[k]? :=
 hg.block k (Array.getElem?_eq_some_iff.1 h).1 (fun e=>by
  obtain⟨_,o,h1,h2⟩:=hr k e.symm
  rw[h] at h1
  rw[←Option.some.inj h1] at h2
  cases h2)
theorem SdJ.own {x:ay} {G:List Int} {w wL:World} {mb rb wb ebx e:Nat} {M0:List Int} {R0:Nat->List Int} {rd:List ByteArray}:OwnFrom wL.heap.size (SdJ x G w wL mb rb wb ebx e M0 R0 (rd:=rd)):=fun s W W' row hs hg hr=>by
 obtain⟨M,rv,R,cg,h1,h2,h3,h4,h5,h6,h7⟩:=hs
 refine⟨M,rv,R,cg,⟨hg.os.trans h1.os,hg.tape.trans h1.tape,hg.output.trans h1.output,Nat.le_trans h1.size hg.size,fun k hk hl=>(Np hg hr hl (Nat.lt_of_lt_of_le hl h1.size)).trans (h1.low k hk hl),fun k o ho a b=>?_⟩,⟨(Yj hg hr h2.mrow).trans h2.mrow,h2.Zf,(Yj hg hr h2.P6).trans h2.P6,fun g Qp=>(h2.own g Qp).Dp (fun b hb=>?_),h2.sep,h2.off,h2.lom,h2.lor⟩,(Yj hg hr h3).trans h3,(Yj hg hr h4).trans h4,h5,h6,h7⟩
 ·have hl:=(Array.getElem?_eq_some_iff.1 ho).1
  exact(Np hg hr hl (Nat.lt_of_lt_of_le hl h1.size)).trans (h1.other k o ho a b)
 ·obtain⟨cur,hcur⟩:=(h2.own g Qp).cellsOf hb
  exact Yj hg hr hcur
theorem Vm {c d:Nat->Nat} (n:Nat) (h:∀g,g<n->c g=d g):Bd c n=Bd d n:=by
 unfold Bd
 congr 1
 exact List.map_congr_left (fun g hg=>h g (List.mem_range.1 hg))
theorem Bv.mono {lo lo':Nat} {A B:World} (h:Bv lo A B) (k:lo'<=lo):Bv lo' A B:=⟨h.os,h.tape,h.output,h.size,fun i hi=>h.low i (by omega),h.cells⟩
theorem az0 {x:ay} {G:List Int} {e:Nat} {M0:List Int} {R0:Nat->List Int} {M:List Int} {R:Nat->List Int} {cg:Nat->Nat} (h:RdP x G e M0 R0 M R cg) (he:e<x.eqs.length) {gn:Nat} (hgn:gn<x.eqs.length) (hed:D7 x G e gn) (hml:M.length=x.eqs.length) (hb:Bd cg x.eqs.length<=1000000000000) :
  RdP x G e M0 R0 (M.set e (wrap64 (((Bd cg x.eqs.length:Nat):Int)+1))) (fun k=>if k=gn then R gn++[(e:Int)] else R k) (fun g=>if g=gn then cg g+1 else cg g):=by
 have hw:wrap64 (((Bd cg x.eqs.length:Nat):Int)+1)=((Bd cg x.eqs.length+1:Nat):Int):=by
  generalize Bd cg x.eqs.length=s at *
  unfold wrap64
  omega
 refine⟨fun g hg=>?_,fun j hj=>?_,fun g hg hc=>?_⟩
 ·by_cases c:g=gn
  ·subst c
   simp only[if_true]
   rw[h.row g hg,List.replicate_succ',List.append_assoc]
  ·simp only[if_neg c]
   exact h.row g hg
 ·rw[hw,En M e j _ (by rw[hml];exact he),axf cg gn _ hgn]
  by_cases c:j=e
  ·rw[if_pos c,if_pos c]
  ·rw[if_neg c,if_neg c,h.wt j hj,if_neg c]
 ·by_cases c:g=gn
  ·subst c
   exact hed
  ·simp only[if_neg c] at hc
   exact h.snd g hg hc
theorem aq2 (e:Nat) (c:Nat) (j:Nat):(List.replicate c (e:Int)).count (j:Int)=if j=e then c else 0:=by
 rw[List.count_replicate]
 by_cases h:j=e
 ·subst h;simp
 ·rw[if_neg h,if_neg]
  intro h9
  have h8:(e:Int)=(j:Int):=eq_of_beq h9
  omega
theorem aum {x:ay} {G:List Int} {e B:Nat} {M:List Int} {R:Nat->List Int} (h:RdI x G e B M R) (he:e<x.eqs.length):RdP x G e M R M R (fun _=>0):=by
 refine⟨fun g _=>by simp,fun j hj=>?_,fun g _ h9=>absurd rfl h9⟩
 by_cases c:j=e
 ·subst c
  rw[if_pos rfl,h.wt j hj]
  congr 1
  exact Vm _ (fun g hg=>by
   rw[List.count_eq_zero]
   intro h9
   obtain⟨i,hi,h8⟩:=h.ent g hg _ h9
   omega)
 ·rw[if_neg c]
theorem aun {x:ay} {G:List Int} {e B K:Nat} {M0:List Int} {R0:Nat->List Int} {M:List Int} {R:Nat->List Int} {cg:Nat->Nat} (h0:RdI x G e B M0 R0) (h:RdP x G e M0 R0 M R cg) (he:e<x.eqs.length) (hcov:∀g,g<x.eqs.length->D7 x G e g->cg g≠0) (hL:∀g,g<x.eqs.length->cg g<=K):RdI x G (e+1) (B+K) M R:=by
 have hcn:∀g,g<x.eqs.length->∀j:Nat,(R g).count (j:Int)=(R0 g).count (j:Int)+if j=e then cg g else 0:=fun g hg j=>by
  rw[h.row g hg,List.count_append,aq2]
 have hz:∀g,g<x.eqs.length->(R0 g).count (e:Int)=0:=fun g hg=>by
  rw[List.count_eq_zero]
  intro h9
  obtain⟨j,hj,h8⟩:=h0.ent g hg _ h9
  omega
 refine⟨fun g hg z hm=>?_,fun j hj g hg=>?_,fun j hj=>?_,fun g hg=>?_⟩
 ·rw[h.row g hg] at hm
  rcases List.mem_append.1 hm with h9|h9
  ·obtain⟨j,hj,h8⟩:=h0.ent g hg z h9
   exact⟨j,by omega,h8⟩
  ·exact⟨e,by omega,(List.mem_replicate.1 h9).2⟩
 ·rw[hcn g hg j]
  by_cases c:j=e
  ·subst c
   rw[hz g hg,if_pos rfl,Nat.zero_add]
   exact⟨fun h9=>h.snd g hg h9,fun h9=>hcov g hg h9⟩
  ·rw[if_neg c,Nat.add_zero]
   exact h0.cnt j (by omega) g hg
 ·rw[h.wt j hj]
  by_cases c:j=e
  ·subst c
   rw[if_pos rfl]
   congr 1
   exact Vm _ (fun g hg=>by rw[hcn g hg,hz g hg,if_pos rfl,Nat.zero_add])
  ·rw[if_neg c,h0.wt j hj]
   congr 1
   exact Vm _ (fun g hg=>by rw[hcn g hg,if_neg c,Nat.add_zero])
 ·rw[h.row g hg,List.length_append,List.length_replicate]
  have h1:=h0.len g hg
  have h2:=hL g hg
  omega
theorem axg {W A w5:World} {lo mb rb n:Nat} {M:List Int} {rv:Nat->Value} {R:Nat->List Int} (e:Nat) (u:Value) (gn:Nat) (hA:Below (W.setCell ⟨mb,e,none⟩ u).heap.size (W.setCell ⟨mb,e,none⟩ u) A) (hgr5:A.grownBy w5 (rv gn).ownBlock) {b T:Nat} {cs:Array Value} (h:dh W b T cs) (h1:b≠mb) (h2:(rv gn).ownBlock≠some b):dh w5 b T cs:=by
 have h3:dh (W.setCell ⟨mb,e,none⟩ u) b T cs:=(Below.heap_setCell _ _ _ _ (by simpa using h1)).trans h
 have h4:=h3.below hA h3.lt
 exact h4.grown' hgr5 (fun e9=>h2 e9.symm)
theorem axh {x:ay} {G:List Int} {w wL W A w5:World} {z0 mb rb wb ebx e:Nat} {M0:List Int} {R0:Nat->List Int} {rd:List ByteArray} {pre:List (Rf rd)} {y:Rf rd} {M:List Int} {rv:Nat->Value} {R:Nat->List Int} {cg:Nat->Nat} {v5:Value}
  (hkp:Bz w.heap.size wL W) (hsd:Gf W w.heap.size mb rb x.eqs.length M rv R) (hwb:dh W wb 26 #[.slice (some ⟨mb,0,none⟩) x.eqs.length x.eqs.length]) (hex:dh W ebx 3 #[.int .i64 (e:Int)]) (hrp:RdP x G e M0 R0 M R cg) (hcv:∀y,y∈pre->∀v:Nat,G.getD (jc (aj x) y.1) 0=(v:Int)->cg v≠0) (hpl:pre.length<2000000) (hle:∀g,g<x.eqs.length->cg g<=pre.length∧cg g<=2000000) (hne:∀g,g<x.eqs.length->(rv g).ownBlock≠some ebx)
  (he:e<x.eqs.length) {gn:Nat} (hgn:gn<x.eqs.length) (hed:D7 x G e gn) (hge:G.getD (jc (aj x) y.1) 0=(gn:Int)) (hb:Bd cg x.eqs.length<=1000000000000) (hme:ebx≠mb) (hwr:wb≠rb) (hz0:z0<=w.heap.size) (hwW:w.heap.size<=W.heap.size)
  (hA:Below (W.setCell ⟨mb,e,none⟩ (.int .i64 (wrap64 (((Bd cg x.eqs.length:Nat):Int)+1)))).heap.size (W.setCell ⟨mb,e,none⟩ (.int .i64 (wrap64 (((Bd cg x.eqs.length:Nat):Int)+1)))) A)
  (hown5:iw mg w5 w.heap.size v5 (R gn++[(e:Int)])) (hgr5:A.grownBy w5 (rv gn).ownBlock) (Vo:∀b,v5.ownBlock=some b->(rv gn).ownBlock=some b∨A.heap.size<=b) :
  KeepsOthers W (w5.setCell ⟨rb,gn,none⟩ v5)∧Bv z0 W (w5.setCell ⟨rb,gn,none⟩ v5)∧SdJ x G w wL mb rb wb ebx e M0 R0 (pre++[y]) (w5.setCell ⟨rb,gn,none⟩ v5):=by
 have hg2:=H7 W ⟨mb,e,none⟩ (.int .i64 (wrap64 (((Bd cg x.eqs.length:Nat):Int)+1)))
 have hsd2:=hsd.afx e (wrap64 (((Bd cg x.eqs.length:Nat):Int)+1))
 have Wp:=hsd2.below hA
 have a3m:=Wp.app gn hgn hown5 hgr5 Vo
 have adq:dh w5 rb 26 ((List.range x.eqs.length).map rv).toArray:=Wp.P6.grown' hgr5 (fun e9=>Wp.Zg gn hgn e9.symm)
 have k1:Bz w.heap.size W (W.setCell ⟨mb,e,none⟩ (.int .i64 (wrap64 (((Bd cg x.eqs.length:Nat):Int)+1)))):=Bz.Tf hg2 (fun b hb=>by cases hb;exact⟨hsd.lom,_,_,Or.inl hsd.mrow⟩)
 have k3:Bz w.heap.size A w5:=Bz.Tf hgr5 (fun b hb=>by
  obtain⟨cur,hcur⟩:=(Wp.own gn hgn).cellsOf hb
  exact⟨(World.ownsRow.lt (Wp.own gn hgn) b hb).1,_,_,Or.inl hcur⟩)
 have k4:Bz w.heap.size w5 (w5.setCell ⟨rb,gn,none⟩ v5):=Bz.Tf (H7 w5 ⟨rb,gn,none⟩ v5) (fun b hb=>by cases hb;exact⟨hsd.lor,_,_,Or.inr adq⟩)
 have hk:=((k1.trans (Bz.J8 hA)).trans k3).trans k4
 have keep:∀{b T:Nat} {cs:Array Value},dh W b T cs->b≠mb->(rv gn).ownBlock≠some b->b≠rb->dh (w5.setCell ⟨rb,gn,none⟩ v5) b T cs:=fun {b T cs} h h1 h2 h3=>(Below.heap_setCell _ _ _ _ (by simpa using h3)).trans (axg (n:=0) (lo:=0) (rb:=0) (M:=[]) (R:=fun _=>[]) e _ gn hA hgr5 h h1 h2)
 refine⟨⟨hk.size,fun k o h hc=>hk.keeps k o h hc⟩,(hk.kpM hwW).mono hz0,_,_,_,_,hkp.trans hk,a3m,keep hwb (fun e9=>?_) (iw.Dn (hsd.own gn hgn) hwb (by decide)) hwr,keep hex hme (hne gn hgn) (fun e9=>?_),az0 hrp he hgn hed hsd.Zf hb,fun y' hy' v hv=>?_,fun g hg=>?_,fun g hg=>?_⟩
 ·rw[e9] at hwb
  exact Et hsd.mrow (by decide) hwb
 ·rw[e9] at hex
  exact Et hex (by decide) hsd.P6
 ·by_cases c:v=gn
  ·rw[if_pos c]
   omega
  ·rw[if_neg c]
   rcases List.mem_append.1 hy' with h9|h9
   ·exact hcv y' h9 v hv
   ·rw[List.mem_singleton] at h9
    subst h9
    rw[hge] at hv
    omega
 ·have h9:=hle g hg
  rw[List.length_append,List.length_singleton]
  split<;>exact⟨by omega,by omega⟩
 ·by_cases c:g=gn
  ·subst c
   simp only[if_true]
   intro h9
   rcases Vo ebx h9 with h8|h8
   ·exact hne g hg h8
   ·have h7:=hex.lt
    have h6:=k1.size
    have h5:=hA.size
    omega
  ·simp only[if_neg c]
   exact hne g hg
structure Vf (w wE:World) (n mb rb wb:Nat) (Ds:List Nat) (rv:Nat->Value) (R:Nat->List Int) (M:List Int) (o:List Int) (v:Value) (wr:World):Prop where
 sd:Gf wr w.heap.size mb rb n M rv R
 kp:Bz w.heap.size wE wr
 mks:N8 wE.heap.size Ds wr
 Z5:dh wr wb 26 #[.slice (some ⟨mb,0,none⟩) n n]
 own:iw mg wr w.heap.size v o
 akm:v.ownBlock≠some mb
 Zg:∀g,g<n->∀b,v.ownBlock=some b->(rv g).ownBlock≠some b
theorem Vf.afx {w wE wr:World} {n mb rb wb:Nat} {Ds:List Nat} {rv:Nat->Value} {R:Nat->List Int} {M o:List Int} {v:Value} (h:Vf w wE n mb rb wb Ds rv R M o v wr) (j:Nat) (u:Int):Vf w wE n mb rb wb Ds rv R (M.set j u) o v (wr.setCell ⟨mb,j,none⟩ (.int .i64 u)):=by
 have k1:Bz w.heap.size wr (wr.setCell ⟨mb,j,none⟩ (.int .i64 u)):=Bz.Tf (H7 wr ⟨mb,j,none⟩ (.int .i64 u)) (fun b hb=>by cases hb;exact⟨h.sd.lom,_,_,Or.inl h.sd.mrow⟩)
 have same:∀k,k≠mb->(wr.setCell ⟨mb,j,none⟩ (.int .i64 u)).heap[k]?=wr.heap[k]?:=fun k hk=>Below.heap_setCell _ _ _ _ (by simpa using hk)
 refine⟨h.sd.afx j u,h.kp.trans k1,h.mks.keep k1,(same wb (fun e9=>?_)).trans h.Z5,h.own.Dp (fun b hb=>same b (fun e9=>?_)),h.akm,h.Zg⟩
 ·have h9:=h.Z5
  rw[e9] at h9
  exact Et h.sd.mrow (by decide) h9
 ·rw[e9] at hb
  exact h.akm hb
theorem Vf.below {w wE wr w':World} {n mb rb wb:Nat} {Ds:List Nat} {rv:Nat->Value} {R:Nat->List Int} {M o:List Int} {v:Value} (h:Vf w wE n mb rb wb Ds rv R M o v wr) (hb:Below wr.heap.size wr w'):Vf w wE n mb rb wb Ds rv R M o v w' :=
 ⟨h.sd.below hb,h.kp.trans (Bz.J8 hb),h.mks.keep (Bz.J8 (lo:=0) hb),h.Z5.below hb h.Z5.lt,h.own.below hb,h.akm,h.Zg⟩
theorem Vf.app {w wE wr w5:World} {n mb rb wb:Nat} {Ds:List Nat} {rv:Nat->Value} {R:Nat->List Int} {M o o':List Int} {v v':Value} (h:Vf w wE n mb rb wb Ds rv R M o v wr) (hown5:iw mg w5 w.heap.size v' o') (hgr5:wr.grownBy w5 v.ownBlock) (Vo:∀b,v'.ownBlock=some b->v.ownBlock=some b∨wr.heap.size<=b):Vf w wE n mb rb wb Ds rv R M o' v' w5:=by
 have k1:Bz w.heap.size wr w5:=Bz.Tf hgr5 (fun b hb=>by
  obtain⟨cur,hcur⟩:=h.own.cellsOf hb
  exact⟨(World.ownsRow.lt h.own b hb).1,_,_,Or.inl hcur⟩)
 have hlt:∀k,k<n->∀b,(rv k).ownBlock=some b->b<wr.heap.size:=fun k hk b hb=>(World.ownsRow.lt (h.sd.own k hk) b hb).2
 refine⟨⟨h.sd.mrow.grown' hgr5 (fun e9=>h.akm e9.symm),h.sd.Zf,h.sd.P6.grown' hgr5 (fun e9=>iw.Dn h.own h.sd.P6 (by decide) e9.symm),fun g hg=>(h.sd.own g hg).Dp (fun b hb=>hgr5.block b (hlt g hg b hb) (fun e9=>h.Zg g hg b e9.symm hb)),h.sd.sep,h.sd.off,h.sd.lom,h.sd.lor⟩,h.kp.trans k1,h.mks.keep k1,h.Z5.grown' hgr5 (fun e9=>iw.Dn h.own h.Z5 (by decide) e9.symm),hown5,fun e9=>?_,fun g hg b hb e9=>?_⟩
 ·rcases Vo mb e9 with h9|h9
  ·exact h.akm h9
  ·have:=h.sd.mrow.lt
   omega
 ·rcases Vo b hb with h9|h9
  ·exact h.Zg g hg b h9 e9
  ·have:=hlt g hg b e9
   omega
def WtK (x:ay) (R:Nat->List Int) (k:Nat) (M:List Int):Prop:=∀j,j<x.eqs.length->uo M j=if Gn (su x k) (j:Int) then -1 else (Rz (fun j g=>(R g).count (j:Int)) x.eqs.length (su x k) j:Int)
def WtT (n e:Nat) (re:List Int) (M0:List Int) (t:Nat) (M:List Int):Prop:=∀j,j<n->uo M j=(if j=e then -1 else uo M0 j)-((re.take t).count (j:Int):Int)
theorem auo {x:ay} {G:List Int} {B:Nat} {M:List Int} {R:Nat->List Int} (h:RdI x G x.eqs.length B M R):WtK x R 0 M:=fun j hj=>by
 rw[h.wt j hj,if_neg (by simp[su,Gn])]
 have h9:Bd (fun g=>(R g).count (j:Int)) x.eqs.length=Rz (fun j g=>(R g).count (j:Int)) x.eqs.length (su x 0) j:=Vm _ (fun g _=>by rw[if_neg (by simp[su,Gn])])
 rw[h9]
theorem aup (n e:Nat) (re M0:List Int) (hm:M0.length=n) (he:e<n):WtT n e re M0 0 (M0.set e (-1)):=fun j hj=>by
 rw[En M0 e j _ (by rw[hm];exact he)]
 simp
theorem auq {n e:Nat} {re M0 M:List Int} {t:Nat} (h:WtT n e re M0 t M) (hm:M.length=n) (ht:t<re.length) (r:Nat) (hr:re[t]=(r:Int)) (hrn:r<n):WtT n e re M0 (t+1) (M.set r (uo M r-1)):=fun j hj=>by
 rw[En M r j _ (by rw[hm];exact hrn),List.take_succ_eq_append_getElem ht,List.count_append,hr,List.count_singleton]
 by_cases c:j=r
 ·subst c
  have h9:(if ((j:Int) == (j:Int))=true then 1 else 0)=1:=if_pos (by simp)
  rw[if_pos rfl,h j hj,h9]
  generalize (if j=e then -1 else uo M0 j)=z
  omega
 ·have h9:(if ((r:Int) == (j:Int))=true then 1 else 0)=0:=if_neg (fun h9=>c (by have h8:(r:Int)=(j:Int):=eq_of_beq h9;omega))
  rw[if_neg c,h j hj,h9,Nat.add_zero]
theorem count_le (l:List Int) (z:Int):l.count z<=l.length:=List.count_le_length
theorem az1 (R:Nat->List Int) (n B:Nat) (hB:∀g,g<n->(R g).length<=B) (d:List Int) (j:Nat):Rz (fun j g=>(R g).count (j:Int)) n d j<=n*B:=by
 have h:=aml (fun g=>if Gn d (g:Int) then 0 else (R g).count (j:Int)) B n (fun g hg=>by
  split
  ·exact Nat.zero_le _
  ·exact Nat.le_trans (count_le _ _) (hB g hg))
 exact h
theorem aur {x:ay} {R:Nat->List Int} {k e2:Nat} {M2 M3:List Int} (h:WtT x.eqs.length e2 (R e2) M2 (R e2).length M3) (hnx:∀j,j<x.eqs.length->(if j=e2 then -1 else uo M2 j)-((R e2).count (j:Int):Int)=if Gn (su x (k+1)) (j:Int) then -1 else (Rz (fun j g=>(R g).count (j:Int)) x.eqs.length (su x (k+1)) j:Int)):WtK x R (k+1) M3:=fun j hj=>by
 rw[h j hj,List.take_length]
 exact hnx j hj
theorem a1k {x:ay} {R:Nat->List Int} {k e2 t B:Nat} {M2 M3:List Int} (hwk:WtK x R k M2) (hw:WtT x.eqs.length e2 (R e2) M2 t M3) (hB:∀g,g<x.eqs.length->(R g).length<=B) (he2:e2<x.eqs.length) (r:Nat) (hr:r<x.eqs.length) : -1-(B:Int)<=uo M3 r∧uo M3 r<=((x.eqs.length*B:Nat):Int):=by
 have h1:=hw r hr
 have h2:=hwk r hr
 have h3:=az1 R x.eqs.length B hB (su x k) r
 have h4:((R e2).take t).count (r:Int)<=B:=Nat.le_trans (count_le _ _) (Nat.le_trans (by rw[List.length_take];exact Nat.min_le_right _ _) (hB e2 he2))
 have h5 : -1<=uo M2 r∧uo M2 r<=((x.eqs.length*B:Nat):Int):=by
  rw[h2]
  split
  ·exact⟨by omega,by omega⟩
  ·exact⟨by omega,by omega⟩
 rw[h1]
 generalize ((R e2).take t).count (r:Int)=c at *
 generalize x.eqs.length*B=nb at *
 split
 ·exact⟨by omega,by omega⟩
 ·exact⟨by omega,by omega⟩
theorem aq3 {w wE wr w':World} {n mb rb wb:Nat} {Ds:List Nat} {rv:Nat->Value} {R:Nat->List Int} {M o:List Int} {v:Value} (h:Vf w wE n mb rb wb Ds rv R M o v wr) (hE:Below w.heap.size w wE) (hw:w'.os=wr.os∧w'.tape=wr.tape∧w'.output=wr.output∧wr.heap.size<=w'.heap.size∧∀k,k<wr.heap.size->k∉Ds->w'.heap[k]?=wr.heap[k]?):iw mg w' w.heap.size v o∧Below w.heap.size w w':=by
 obtain⟨a1,a2,a3,a4,a5⟩:=hw
 refine⟨h.own.Dp (fun b hb=>a5 b (World.ownsRow.lt h.own b hb).2 (fun h9=>?_)),a1.trans (h.kp.os.trans hE.os),a2.trans (h.kp.tape.trans hE.tape),a3.trans (h.kp.output.trans hE.output),Nat.le_trans hE.size (Nat.le_trans h.kp.size a4),fun k hk=>?_⟩
 ·obtain⟨cur,hcur⟩:=h.own.cellsOf hb
  rw[(h.mks.2 b h9).2] at hcur
  cases hcur
 ·refine(a5 k (Nat.lt_of_lt_of_le hk (Nat.le_trans hE.size h.kp.size)) (fun h9=>?_)).trans ((h.kp.low k hk (Nat.lt_of_lt_of_le hk hE.size)).trans (hE.block k hk))
  have h8:=(h.mks.2 k h9).1
  have h7:=hE.size
  omega
end Go.Proofs.YtflcnhfakcgkeaaGreat
