import Derived.Test.YtflcnhfakcgkeaaGreatCS19
import Derived.Test.YtflcnhfakcgkeaaGreatC6
namespace Go.Proofs.YtflcnhfakcgkeaaGreat
open Go.RowKit
set_option linter.unusedSimpArgs false
set_option linter.unusedVariables false
def N7:Oa Tryz.prog Nat where
 T:=69
 ST:=201
 sz:=1
 oz:=8
 f:=fun t=>[.pointer (some ⟨t,0,none⟩)]
 z:=.pointer none
 hT:=Tryz.underlying201
 hi:=by kernel_rfl
 hz:=rfl
 hf:=fun _=>rfl
 h1:=fun c u hu=>by
  simp only[List.mem_cons,List.not_mem_nil,or_false] at hu
  rcases hu with rfl
  rfl
 hsz:=by decide
 hby:=by decide
theorem apw (D:List Nat):D.flatMap N7.f=D.map xk:=by
 show D.flatMap (fun t=>[xk t])=_
 induction D with
 | nil=>rfl
 | cons a r ih=>rw[List.flatMap_cons,List.map_cons,ih];rfl
theorem iw.cellC {w:World} {base:Nat} {v:Value} {D:List Nat} (h:iw N7 w base v D) {g c n:Nat} (hv:v=.slice (some ⟨g,0,none⟩) n c) (p:Nat) (hp:p<D.length):w.cell? ⟨g,p,none⟩=some (xk D[p]):=by
 have h':=World.ownsRow.cells h (g:=g) (by rw[hv];rfl) p (xk D[p]) (by
  rw[apw]
  rw[List.getElem?_map,List.getElem?_eq_getElem hp]
  rfl)
 rw[Addr.add_lit,Nat.zero_add] at h'
 exact h'
theorem iw.cellsOf {P:Program} {α:Type} {E:Oa P α} {w:World} {base:Nat} {v:Value} {xs:List α} (h:iw E w base v xs) {g:Nat} (hg:v.ownBlock=some g):∃cur,w.heap[g]?=some (.cells cur E.T (0,0)):=by
 obtain⟨h1,h2⟩:=h
 rcases h2 with ⟨h3,h4⟩|⟨g1,cap,cur,h3,h4,h5,_⟩
 ·rw[h3] at hg;cases hg
 ·rw[h3] at hg
  cases hg
  exact⟨cur,h5⟩
theorem Sc.row {W w w':World} {nv fz:Value} {vs:List gy} {G:List Int} {sb vb:Nat} {ov:Value} {D:List Nat} {C L:List cu->Option Nat} {N:Nat} (h:Sc W w nv fz vs G sb vb ov D C L N) {g:Nat} {T:TypeId} {cs:Array Value} (hg:w.heap[g]?=some (.cells cs T (0,0))) (h1:T≠112) (h2:T≠78) (h3:T≠73) (h4:T≠74) (hlo:W.heap.size<=g) (hgr:w.grownBy w' (some g)):Sc W w' nv fz vs G sb vb ov D C L N:=by
 have hgb:dh w g T cs:=hg
 have same:∀b,b<w.heap.size->b≠g->w'.heap[b]?=w.heap[b]?:=fun b hb hne=>hgr.block b hb (fun e=>hne (Option.some.inj e))
 have aac:∀{b:Nat} {es:Array MapEntry} {ck:Nat},w.heap[b]?=some (.map es ck)->b≠g:=fun {b es ck} hb e=>by
  rw[e] at hb
  have h9:=hb.symm.trans hg
  cases h9
 have tq:∀{b:Nat} {U:TypeId} {ds:Array Value},dh w b U ds->T≠U->dh w' b U ds:=fun {b U ds} hb hne=>(same b hb.lt (fun e=>by
  rw[e] at hb
  have h9:=hb.symm.trans hgb
  simp only[Option.some.injEq,Obj.cells.injEq] at h9
  exact hne h9.2.1.symm)).trans hb
 refine⟨⟨hgr.os.trans h.old.os,hgr.tape.trans h.old.tape,hgr.output.trans h.old.output,Nat.le_trans h.old.size hgr.size,fun k hk=>(same k (Nat.lt_of_lt_of_le hk h.old.size) (by omega)).trans (h.old.block k hk)⟩,h.trie.same hgr.size (fun ks b hk=>(tq (h.trie.blk ks b hk).1 h1).trans (h.trie.blk ks b hk).1.symm) (fun ks M hk=>?_),tq h.tq h2,h.ord.Dp (fun b hb=>same b (h.ord.lt b hb).2 (fun e=>iw.Dn h.ord hgb (fun e9=>h4 e9.symm) (e▸hb))),h.Eh,fun j hj=>?_,h.inj,h.Zl,?_,h.slo,h.vlo⟩
 ·obtain⟨D9,⟨es,ck,h5,_⟩,_⟩:=(h.trie.map ks M hk).1
  exact same M (h.trie.map ks M hk).1.lt (aac h5)
 ·obtain⟨cv,p,g1,g2,g3⟩:=h.decl j hj
  exact⟨cv,p,tq g1 h3,g2,g3⟩
 ·obtain⟨n,f,g1,g2,g3⟩:=h.vars
  refine⟨n,f,g1,g2.block ?_,g3⟩
  have hlt:=g2.lt
  obtain⟨D9,⟨es,ck,g4,_⟩,_⟩:=g2
  exact same vb hlt (aac g4)
theorem Grow.aiq {lo:Nat} {w w1 w2:World} {C L C' L':List cu->Option Nat} (h:Grow lo w C L w1 C' L') {g:Nat} (hg:w1.grownBy w2 (some g)) (hge:w.heap.size<=g) (hlo:lo<=w.heap.size):Grow lo w C L w2 C' L':=by
 have same:∀x,x<w.heap.size->w2.heap[x]?=w1.heap[x]?:=fun x hx=>hg.block x (Nat.lt_of_lt_of_le hx h.keep.size) (fun e=>by simp only[Option.some.injEq] at e;omega)
 exact⟨⟨hg.os.trans h.keep.os,hg.tape.trans h.keep.tape,hg.output.trans h.keep.output,Nat.le_trans h.keep.size hg.size,fun x hx=>(same x (by omega)).trans (h.keep.low x hx),fun x hx h1 h2=>(same x hx).trans (h.keep.block x hx h1 h2)⟩,h.c,h.l,h.ln⟩
theorem Grow.a18 {lo:Nat} {w w':World} {X:Nat->Prop} {C L C' L':List cu->Option Nat} {N:Nat} (g:Grow lo w C L w' C' L') (h:Trie w lo X C L N) {base:Nat} {v:Value} {D:List Nat} (ho:iw N7 w base v D):iw N7 w' base v D:=by
 refine ho.Dp (fun b hb=>g.keep.block b (ho.lt b hb).2 (fun cs h1=>iw.Dn ho h1 (by decide) hb) (fun ks e=>?_))
 have h1:=(h.map ks b e).1
 obtain⟨D9,⟨es,ck,h2,_⟩,_⟩:=h1
 exact ho.adv hb h2
theorem Fd.app {α:Type} {f:eu->List α->α} {code:List eu} {b m e:Nat} {ss us:List α} (h:Fd f code b m ss) (k:Fd f code m e us):Fd f code b e (ss++us):=by
 induction k using Fd.ind with
 | nil b=>rw[List.append_nil];exact h
 | snoc h0 h1 h2 h3 i1 i2=>rw[←List.append_assoc];exact .snoc h0 (i1 h) h2 h3
theorem air (t:eu) (ks:List cu):(Xj t ks).length=Af t.op:=by
 unfold Xj
 by_cases h1:t.op=23
 ·rw[if_pos h1,h1];rfl
 ·rw[if_neg h1]
  by_cases h2:t.op=24
  ·rw[if_pos h2,h2];rfl
  ·rw[if_neg h2,List.length_replicate]
theorem awv {α:Type} (us:List (α->Bool)) (k:α) (n:Nat) (h:us.length=n):(List.zip us (List.replicate n k)).all (fun p=>p.1 p.2)=us.all (fun g=>g k):=by
 subst h
 induction us with
 | nil=>rfl
 | cons u r ih=>rw[List.length_cons,List.replicate_succ,List.zip_cons_cons,List.all_cons,List.all_cons,ih]
theorem agi (vs:List gy) (t:eu) (us:List Ctx) (k:List cu) (pz:us.length=Af t.op):l9 vs t us k=(Qx vs t k&&(List.zip us (Xj t k)).all (fun p=>p.1 p.2)):=by
 unfold l9 Qx Xj
 by_cases h12:t.op=1∨t.op=2
 ·rw[if_pos h12,if_neg (by omega),if_neg (by omega),if_neg (by omega),if_neg (by omega),if_neg (by omega)]
  have h0:us=[]:=List.eq_nil_of_length_eq_zero (by rw[pz];rcases h12 with h|h<;>rw[h]<;>rfl)
  subst h0
  rfl
 rw[if_neg h12]
 by_cases h3:t.op=3
 ·rw[if_pos h3,if_pos h3,if_neg (by omega),if_neg (by omega)]
  have h0:us=[]:=List.eq_nil_of_length_eq_zero (by rw[pz,h3];rfl)
  subst h0
  simp
 rw[if_neg h3,if_neg h3]
 by_cases h4:t.op=23
 ·rw[if_pos h4,if_pos h4,if_pos h4]
  have hl:us.length=1:=by rw[pz,h4];rfl
  match us,hl with
  | [u],_=>cases k.getLast?<;>simp[Bool.and_assoc]
 rw[if_neg h4,if_neg h4,if_neg h4]
 by_cases h5:t.op=24
 ·rw[if_pos h5,if_pos h5,if_pos h5]
  have hl:us.length=2:=by rw[pz,h5];rfl
  match us,hl with
  | [u,v],_=>simp[Bool.and_assoc]
 ·rw[if_neg h5,if_neg h5,if_neg h5,Bool.true_and,awv us k _ pz]
theorem aww (vs:List gy) (code:List eu) (h:wk code 0=true) (ks:List cu):∃g:Ctx,Fd (l9 vs) code 0 code.length [g]∧Ol vs code ks=g ks:=by
 obtain⟨s,hs⟩:=adz (l9 vs) h
 refine⟨s,hs,?_⟩
 unfold Ol
 rw[ad1 hs]
theorem awx (vs:List gy) (t:eu) (ks:List cu) (h:ks.length<=8) (hf:Qx vs t ks=true):∀c,c∈Xj t ks->c.length<=8:=by
 unfold Xj
 intro c hc
 by_cases h1:t.op=23
 ·rw[if_pos h1,List.mem_singleton] at hc
  rw[hc,List.length_dropLast]
  omega
 ·rw[if_neg h1] at hc
  by_cases h2:t.op=24
  ·rw[if_pos h2] at hc
   unfold Qx at hf
   rw[if_neg (by omega),if_neg h1,if_pos h2,Bool.and_eq_true,decide_eq_true_iff] at hf
   simp only[List.mem_cons,List.not_mem_nil,or_false] at hc
   rcases hc with rfl|rfl
   ·rw[List.length_append,List.length_singleton];omega
   ·rw[List.length_append,List.length_singleton];omega
  ·rw[if_neg h2] at hc
   rw[List.eq_of_mem_replicate hc]
   exact h
theorem asl {vs:List gy} {t:eu} {ks:List cu} (h:t.op=23) (hf:Qx vs t ks=true):ks≠[]:=fun e=>by
 subst e
 unfold Qx at hf
 rw[if_neg (by omega),if_pos h] at hf
 simp at hf
theorem Grow.asn {lo:Nat} {w w':World} {X:Nat->Prop} {C L C' L':List cu->Option Nat} {N:Nat} (g:Grow lo w C L w' C' L') (h:Trie w lo X C L N) {b:Nat} {T:TypeId} {cs:Array Value} (hb:dh w b T cs) (hT:T≠112):dh w' b T cs:=by
 refine(g.keep.block b hb.lt (fun cs'=>Et hb hT) (fun ks e=>?_)).trans hb
 obtain⟨D9,⟨es,ck,h2,_⟩,_⟩:=(h.map ks b e).1
 have h9:=h2.symm.trans hb
 cases h9
theorem Fd.zero {α:Type} {f:eu->List α->α} {code:List eu} {b:Nat} {gs:List α} (h:Fd f code b 0 gs):gs=[]:=by
 generalize he:0=e at h
 cases h using Fd.inv with
 | nil=>rfl
 | snoc _ _ _ _=>cases he
theorem Fd.top {α:Type} {f:eu->List α->α} {code:List eu} {k:Nat} {gs:List α} (h:Fd f code 0 (k+1) gs):∃(hk:k<code.length) (m:Nat) (ss us:List α),gs=ss++[f code[k] us]∧Fd f code 0 m ss∧Fd f code m k us∧us.length=Af code[k].op:=by
 generalize he:k+1=e at h
 generalize hb:0=b at h
 cases h using Fd.inv with
 | nil=>omega
 | @snoc _ m e ss us h h1 h2 h3 =>
  have e':k=e:=by omega
  subst e'
  subst hb
  exact⟨h,m,ss,us,rfl,h1,h2,h3⟩
theorem aso {C:List cu->Option Nat} {st:List (List cu)} {ps:List Nat} (h:st.map C=ps.map some) (hs:st≠[]):∃s0 top p0 pt,st=s0++[top]∧ps=p0++[pt]∧s0.map C=p0.map some∧C top=some pt:=by
 rcases List.eq_nil_or_concat st with h1|⟨s0,top,h1⟩
 ·exact absurd h1 hs
 rcases List.eq_nil_or_concat ps with h2|⟨p0,pt,h2⟩
 ·rw[h1,h2] at h
  simp at h
 rw[List.concat_eq_append] at h1 h2
 rw[h1,h2,List.map_append,List.map_append] at h
 have h3:=List.append_inj' h (by simp)
 refine⟨s0,top,p0,pt,h1,h2,h3.1,?_⟩
 simpa using h3.2
theorem ais {α β:Type} (ss:List α) (s0:List β) (u:α) (k:β) (h:ss.length=s0.length) (f:α × β->Bool):(List.zip (ss++[u]) (s0++[k])).all f=((List.zip ss s0).all f&&f (u,k)):=by
 rw[List.zip_append h,List.all_append]
 simp
structure CxI (W w:World) (nv:Value) (vs:List gy) (G:List Int) (sb vb:Nat) (ov:Value) (D:List Nat) (C L:List cu->Option Nat) (N:Nat) (code:List eu) (ok:Bool) (fb k:Nat) (sv:Value) (wr:World):Prop where
 ex:∃(st:List (List cu)) (ps:List Nat) (C' L':List cu->Option Nat) (N':Nat) (gs:List Ctx),Sc W wr nv .nilFunc vs G sb vb ov D C' L' N'∧Grow W.heap.size w C L wr C' L'∧iw N7 wr (fb+1) sv ps∧st.map C'=ps.map some∧(∃r,dh wr fb 69 r∧r.size=code.length)∧Fd (l9 vs) code 0 k gs∧gs.length=st.length∧ok=(List.zip gs st).all (fun p=>p.1 p.2)∧N'<=N+2*(code.length-k)∧(∀c,c∈st->c.length<=8)
def apx (W:World) (nv:Value) (vs:List gy) (G:List Int) (sb vb:Nat) (ov:Value) (D:List Nat) (C L:List cu->Option Nat) (N n:Nat) (ok:Bool) (w:World) (e:Ending) (w':World):Prop :=
 ∃(v:Value) (C' L':List cu->Option Nat) (N':Nat),e=.returned v∧Sc W w' nv .nilFunc vs G sb vb ov D C' L' N'∧N'<=N+2*n∧Grow W.heap.size w C L w' C' L'∧(ok=true->∃fb,v=.slice (some ⟨fb,0,none⟩) n n)∧(ok=false->v=.slice none 0 0)
structure CxA (W w:World) (nv:Value) (vs:List gy) (G:List Int) (sb vb:Nat) (ov:Value) (D:List Nat) (C L C' L':List cu->Option Nat) (N':Nat) (n fb m g cap:Nat) (p0:List Nat) (pt k cb co:Nat) (t:eu) (wr:World):Prop where
 sc:Sc W wr nv .nilFunc vs G sb vb ov D C' L' N'
 gr:Grow W.heap.size w C L wr C' L'
 own:iw N7 wr (fb+1) (.slice (some ⟨g,0,none⟩) m cap) p0
 row:∃r,dh wr fb 69 r∧r.size=n
 fc:wr.cell? ⟨fb,k,none⟩=some (xk pt)
 i0:wr.cell? ⟨cb,co,none⟩=some (.int .i64 t.op)
 i1:wr.cell? ⟨cb,co+1,none⟩=some (.int .i64 t.val)
 i2:wr.cell? ⟨cb,co+2,none⟩=some (.string t.name)
theorem CxA.below {W w:World} {nv:Value} {vs:List gy} {G:List Int} {sb vb:Nat} {ov:Value} {D:List Nat} {C L C' L':List cu->Option Nat} {N' n fb m g cap:Nat} {p0:List Nat} {pt k cb co:Nat} {t:eu} {wr w':World} (h:CxA W w nv vs G sb vb ov D C L C' L' N' n fb m g cap p0 pt k cb co t wr) (hb:Below wr.heap.size wr w'):CxA W w nv vs G sb vb ov D C L C' L' N' n fb m g cap p0 pt k cb co t w':=by
 have c:∀{p:Addr} {v:Value},wr.cell? p=some v->w'.cell? p=some v:=fun {p v} h9=>(hb.cell (World.block_lt_of_cell? wr _ h9)).trans h9
 obtain⟨r,hr,hr2⟩:=h.row
 exact⟨h.sc.below hb,h.gr.trans (Grow.of_below hb h.sc.old.size),h.own.below hb,⟨r,hr.below hb hr.lt,hr2⟩,c h.fc,c h.i0,c h.i1,c h.i2⟩
theorem CxA.push {W w:World} {nv:Value} {vs:List gy} {G:List Int} {sb vb:Nat} {ov:Value} {D:List Nat} {C L C' L':List cu->Option Nat} {N N' fb m g cap:Nat} {p0:List Nat} {pt k cb co:Nat} {t:eu} {wr:World} {code:List eu} (h:CxA W w nv vs G sb vb ov D C L C' L' N' code.length fb m g cap p0 pt k cb co t wr)
  (hm:p0.length=m) (hW:W.heap.size<=w.heap.size) (hfb:fb=w.heap.size) (hcb:cb<W.heap.size) (s0:List (List cu)) (top:List cu) (hs0:s0.map C'=p0.map some) (htop:C' top=some pt) (hk:k<code.length) (ht:code[k]=t) (hc9:code.length<=6000) (hsl:∀c,c∈s0++[top]->c.length<=8)
  (m0:Nat) (ss us:List Ctx) (f1:Fd (l9 vs) code 0 m0 ss) (f2:Fd (l9 vs) code m0 k us) (pz:us.length=Af t.op) (hsl2:ss.length=s0.length) (ok:Bool) (hok:ok=(List.zip (ss++[l9 vs t us]) (s0++[top])).all (fun p=>p.1 p.2)) (hN:N'<=N+2*(code.length-(k+1)))
  (hfit:Qx vs t top=true) {e:Ending} {w3:World} (hoc:Nl W.heap.size (fun x=>x=vb) C' L' N' (Xj t top) wr e w3) :
  ∃(ob n2 g' cap':Nat) (w4:World),e=.returned (.slice (some ⟨ob,0,none⟩) n2 n2)∧(∀ty,(Builtin.append_ #[201,201] ty #[.slice (some ⟨g,0,none⟩) m cap,.slice (some ⟨ob,0,none⟩) n2 n2]).run Tryz.prog w3=.ok (.slice (some ⟨g',0,none⟩) (m+n2) cap') w4)∧CxI W w nv vs G sb vb ov D C L N code ok fb k (.slice (some ⟨g',0,none⟩) (m+n2) cap') w4 ∧
   (w3.cell? ⟨fb,k,none⟩=some (xk pt)∧w3.cell? ⟨cb,co,none⟩=some (.int .i64 t.op)∧w3.cell? ⟨cb,co+1,none⟩=some (.int .i64 t.val)∧w3.cell? ⟨cb,co+2,none⟩=some (.string t.name)) ∧
   (w4.cell? ⟨fb,k,none⟩=some (xk pt)∧w4.cell? ⟨cb,co,none⟩=some (.int .i64 t.op)∧w4.cell? ⟨cb,co+1,none⟩=some (.int .i64 t.val)∧w4.cell? ⟨cb,co+2,none⟩=some (.string t.name)):=by
 obtain⟨ob,qs,C2,L2,N2,rfl,hob,a5p,htr,hN2,hgr,hmap⟩:=hoc
 have U9:=h.sc.grow hgr htr
 have gr3:=h.gr.trans hgr
 have ani:=hgr.a18 h.sc.trie h.own
 obtain⟨r,hr,hrs⟩:=h.row
 have hr3:=hgr.asn h.sc.trie hr (by decide)
 have hql:qs.length=Af t.op:=by
  have h9:=congrArg List.length hmap
  rw[List.length_map,List.length_map,air] at h9
  exact h9.symm
 have har:Af t.op<=3:=by unfold Af;have:=Gh t.op;omega
 have hg1:fb+1<=g:=ani.block g rfl
 have hp6:p0.length<=6000:=by
  have h8:=congrArg List.length hs0
  rw[List.length_map,List.length_map] at h8
  have h9:=f1.anf
  have h7:=f2.le
  omega
 subst hm
 have a19:bf 1 8 (RFl N7) 0 w3 (.slice (some ⟨ob,0,none⟩) qs.length qs.length) qs:=by
  refine⟨_,_,rfl,⟨by unfold Len;omega,Nat.le_refl _⟩,by unfold Len;omega,fun i hi=>⟨ob,0,[xk qs[i]],rfl,Nat.zero_le _,hob.lt,rfl,fun j hj=>?_,rfl⟩⟩
  have hj0:j=0:=by simpa using hj
  subst hj0
  refine hob.cell (v:=xk qs[i]) ?_
  rw[Nat.mul_one,Nat.zero_add,Nat.add_zero]
  simp[hi]
 have hsz3:fb+1<=w3.heap.size:=by
  have:=(ani.lt g rfl).2
  omega
 have hall:∀ty,∃g' cap' w4,(Builtin.append_ #[201,201] ty #[.slice (some ⟨g,0,none⟩) p0.length cap,.slice (some ⟨ob,0,none⟩) qs.length qs.length]).run Tryz.prog w3=.ok (.slice (some ⟨g',0,none⟩) (p0.length+qs.length) cap') w4∧iw N7 w4 (fb+1) (.slice (some ⟨g',0,none⟩) (p0.length+qs.length) cap') (p0++qs)∧w3.grownBy w4 (some g):=fun ty =>
  aez N7 (R:=RFl N7) (ahd N7) w3 ty (fb+1) g cap p0 ani _ qs a19 (by show (p0.length+qs.length)*8<=_;omega) hsz3
 obtain⟨g',cap',w4,hrun,hown4,asq⟩:=hall 201
 have hrun':∀ty,(Builtin.append_ #[201,201] ty #[.slice (some ⟨g,0,none⟩) p0.length cap,.slice (some ⟨ob,0,none⟩) qs.length qs.length]).run Tryz.prog w3=.ok (.slice (some ⟨g',0,none⟩) (p0.length+qs.length) cap') w4:=fun ty=>hrun
 obtain⟨cur,hcur⟩:=ani.cellsOf (g:=g) rfl
 have sc4:=U9.row hcur (by decide) (by decide) (by decide) (by decide) (by omega) asq
 have gr4:=gr3.aiq asq (by omega) hW
 have hne:fb≠g:=by omega
 have hr4:dh w4 fb 69 r:=(asq.block fb hr3.lt (fun e=>hne (Option.some.inj e))).trans hr3
 have cW:∀{a:Addr} {v:Value} {u u':World},a.block<W.heap.size->Below W.heap.size W u->Below W.heap.size W u'->u.cell? a=some v->u'.cell? a=some v:=fun {a v u u'} ha h1 h2 h3=>(h2.cell ha).trans ((h1.cell ha).symm.trans h3)
 have c3:∀{a:Addr} {v:Value},a.block=fb->wr.cell? a=some v->w3.cell? a=some v:=fun {a v} ha h9=>(World.cell?_of_block (w:=wr) (by rw[ha];exact hr3.trans hr.symm)).trans h9
 have c4:∀{a:Addr} {v:Value},a.block=fb->w3.cell? a=some v->w4.cell? a=some v:=fun {a v} ha h9=>(World.cell?_of_block (w:=w3) (by rw[ha];exact hr4.trans hr3.symm)).trans h9
 have fc3:=c3 rfl h.fc
 have j0:=cW hcb h.sc.old U9.old h.i0
 have j1:=cW hcb h.sc.old U9.old h.i1
 have j2:=cW hcb h.sc.old U9.old h.i2
 refine⟨ob,qs.length,g',cap',w4,rfl,hrun',⟨⟨s0++Xj t top,p0++qs,C2,L2,N2,ss++us,sc4,gr4,hown4,?_,⟨r,hr4,hrs⟩,f1.app f2,?_,?_,by omega,?_⟩⟩,⟨fc3,j0,j1,j2⟩,⟨c4 rfl fc3,cW hcb U9.old sc4.old j0,cW hcb U9.old sc4.old j1,cW hcb U9.old sc4.old j2⟩⟩
 ·have hs2:s0.map C2=s0.map C':=by
   refine List.map_congr_left (fun c hc=>?_)
   obtain⟨q,hq⟩:∃q,C' c=some q:=by
    have h9:C' c∈p0.map some:=by rw[←hs0];exact List.mem_map_of_mem hc
    obtain⟨q,_,hq⟩:=List.mem_map.1 h9
    exact⟨q,hq.symm⟩
   rw[hq,hgr.c _ _ hq]
  rw[List.map_append,List.map_append,hmap,hs2,hs0]
 ·rw[List.length_append,List.length_append,air,pz,hsl2]
 ·rw[hok,ais ss s0 _ _ hsl2,List.zip_append hsl2,List.all_append]
  simp only
  rw[agi vs t us top pz,hfit,Bool.true_and]
 ·intro c hc
  rcases List.mem_append.1 hc with h9|h9
  ·exact hsl c (List.mem_append.2 (Or.inl h9))
  ·exact awx vs t top (hsl top (by simp)) hfit c h9
theorem Q9 {P:Program} {w w':World} {ops:Array Oper} {o:Oper} {a:Act} {K:Act->World->Prop} {Q:Exit->Act->World->Prop} {Er:Prop} (hgd:o.guard=none) (s x:Operand) (t ty:TypeId)
  (ho:o.op=.call { callee:=.builtin .append,args:=#[s,x],argTypes:=#[t,t] }) (hty:o.type=ty) (v xv v':Value) (hs:a.eval s=v) (hx:a.eval x=xv) (hrun:(Builtin.append_ #[t,t] ty #[v,xv]).run P w=.ok v' w') (h:K (a.put o.dst v') w') :
  if Region.wanted o (yielded ops a.tmps)=true then Oper.wp P o a w K Q else Er:=by
 have hwant:Region.wanted o (yielded ops a.tmps)=true:=by simp[Region.wanted,hgd]
 rw[if_pos hwant]
 subst hty
 unfold Oper.wp execOp
 simp only[ho,resolve,invoke,builtin,Sem.run_bind,Sem.run_pure,Result.andThen_ok,List.map_toArray,List.map_cons,List.map_nil,hs,hx,hrun]
 exact h
set_option maxRecDepth 20000 in
set_option maxHeartbeats 8000000 in
theorem ak7 (W w:World) (nv:Value) (vs:List gy) (G:List Int) (sb vb:Nat) (ov:Value) (D:List Nat) (C L:List cu->Option Nat) (N:Nat) (hS:Sc W w nv .nilFunc vs G sb vb ov D C L N) (code:List eu) (cv:Value) (hcv:bf 3 32 jw 0 W cv code) (hcd:Po code)
  (hnm:∀t,t∈code->t.op=3∨t.op=23∨t.op=24->jc vs t.name<vs.length) (ks:List cu) (p:Nat) (hp:C ks=some p) (hkl:ks.length<=8) (hN:N+2*code.length+2<maxLen) :
  Calls Tryz.prog 151 #[.pointer (some ⟨sb,0,none⟩),cv,.pointer (some ⟨p,0,none⟩)] w (apx W nv vs G sb vb ov D C L N code.length (Ol vs code ks) w):=by
 have hnl:=hcd.2.2
 obtain⟨ca,cc,aio⟩:=hcv.shape
 subst aio
 have hW:=hS.old.size
 obtain⟨gg,hfd,hgg⟩:=aww vs code hcd.2.1 ks
 obtain⟨ok,hok⟩:∃ok,ok=Ol vs code ks:=⟨_,rfl⟩
 rw[←hok]
 have hmk:(Instr.makeSlice 201 (.int .i64 (code.length:Int)) (.int .i64 (code.length:Int))).run Tryz.prog w=.ok (.slice (some ⟨w.heap.size,0,none⟩) code.length code.length) (w.alloc (.cells (madeCells (Value.pointer none).cells (code.length*1)) 69)):=Am (P:=Tryz.prog) 201 69 (.pointer none) 1 8 Tryz.underlying201 X9 code.length (by omega) (by omega) w
 obtain⟨w1,hw1⟩:∃z,z=w.alloc (.cells (madeCells (Value.pointer none).cells (code.length*1)) 69):=⟨_,rfl⟩
 rw[←hw1] at hmk
 have hB1:Below w.heap.size w w1:=by rw[hw1];exact(Below.refl _ _).alloc (Nat.le_refl _) _
 have hB2:Below w.heap.size w (w1.alloc (.cells #[.pointer (some ⟨p,0,none⟩)] 69)):=hB1.alloc hB1.size _
 have hs1:w1.heap.size=w.heap.size+1:=by rw[hw1];simp
 have HST:Hid (CxI W w nv vs G sb vb ov D C L N code ok w.heap.size code.length (.slice (some ⟨w1.heap.size,0,none⟩) 1 1) (w1.alloc (.cells #[.pointer (some ⟨p,0,none⟩)] 69))):=by
  refine hide ⟨[ks],[p],C,L,N,[gg],hS.below hB2,Grow.of_below hB2 hW,?_,by rw[List.map_cons,hp];rfl,?_,hfd,rfl,?_,by omega,fun c hc=>by rw[List.mem_singleton] at hc;rw[hc];exact hkl⟩
  ·have h9:=iw.one (E:=N7) w1 (w.heap.size+1) (by omega) p
   exact h9
  ·refine⟨madeCells (Value.pointer none).cells (code.length*1),?_,by rw[size_madeCells,Nat.mul_one]⟩
   have h9:=jd w (madeCells (Value.pointer none).cells (code.length*1)) 69
   rw[←hw1] at h9
   exact h9.below ((Below.refl _ w1).alloc (Nat.le_refl _) _) h9.lt
  ·rw[hok,hgg]
   simp
 rw[hs1] at HST
 have HS:=hide hS
 have Zp:=hide hcv
 have Ov:=hide hcd
 have HNM:=hide hnm
 have HN:=hide hN
 have HW:=hide hW
 obtain⟨PO,l7⟩:∃PO:Ending->World->Prop,PO=apx W nv vs G sb vb ov D C L N code.length ok w:=⟨_,rfl⟩
 rw[←l7]
 have qy:=hide l7
 obtain⟨fb,hfb⟩:∃z,z=w.heap.size:=⟨_,rfl⟩
 rw[←hfb] at HST hmk hs1
 have HFB:=hide hfb
 have hnw:IntKind.i64.wrap ((code.length:Int)-1)=(code.length:Int)-1:=by
  rw[IntKind.wrap_i64]
  omega
 clear hS hcv hcd hnm hN hW l7 hw1 hB1 hB2 hfd hgg hok hp hfb
 go_enter Tryz.func151,Tryz.ntmps151
 go_wp2
 clear hmk
 go_loopg [8,9] code.length (fun gm sv iv wr=>∃(k:Nat),k<=code.length∧gm=k∧iv=.int .i64 ((k:Int)-1)∧CxI W w nv vs G sb vb ov D C L N code ok fb k sv wr)
 case atStart=>exact⟨code.length,Nat.le_refl _,rfl,rfl,by first|exact uh HST|(rw[hs1];exact uh HST)⟩
 case round =>
  obtain⟨k,hk,hg,hiv,hcx⟩:=hrel
  rename World=>wr
  clear HST hnw hs1
  have HG:=hide hg
  clear hg
  rcases Nat.eq_zero_or_pos k with hk0|hk0
  ·subst hk0
   have ac7:_=Value.int .i64 (-1):=hiv
   subst ac7
   have gq:Hid (PO (.returned (.slice (some ⟨fb,0,none⟩) code.length code.length)) wr):=by
    obtain⟨st,ps,C',L',N',gs,x1,x2,x3,x4,x5,x6,x7,x8,x9,x10⟩:=hcx
    have hgs:=x6.zero
    subst hgs
    rw[uh qy]
    refine hide ⟨_,C',L',N',rfl,x1,by omega,x2,fun _=>⟨fb,rfl⟩,fun h9=>?_⟩
    rw[x8] at h9
    simp at h9
   clear hcx hiv
   go_wp2
   exact uh gq
  obtain⟨i,rfl⟩:∃z,k=z+1:=⟨k-1,by omega⟩
  have ac7:_=Value.int .i64 (i:Int):=hiv.trans (by congr 1;omega)
  subst ac7
  obtain⟨st,ps,C',L',N',gs,x1,x2,x3,x4,⟨r,x5,x5b⟩,x6,x7,x8,x9,x10⟩:=hcx
  obtain⟨hi,m0,ss,us,hgs,f1,f2,pz⟩:=x6.top
  have ayh:st≠[]:=fun e=>by
   rw[e,hgs] at x7
   simp at x7
  obtain⟨s0,top,p0,pt,hst,hps,hs0,htop⟩:=aso x4 ayh
  have hit:=(uh Ov).1 _ (List.getElem_mem hi)
  have hop:=((zo code[i]).1 hit).1
  have ayi:=uh HNM _ (List.getElem_mem hi)
  obtain⟨g,cap,hsv,hgb,a2a,hgc⟩:∃g cap,_=Value.slice (some ⟨g,0,none⟩) ps.length cap∧fb+1<=g∧g<wr.heap.size∧ps.length<=cap:=by
   rcases x3.shape with ⟨_,h9⟩|h9
   ·rw[hps] at h9;simp at h9
   ·exact h9
  have hpl:ps.length=p0.length+1:=by rw[hps];simp
  have hsl0:s0.length=p0.length:=by
   have h8:=congrArg List.length hs0
   simpa using h8
  have asr:ss.length=s0.length:=by
   rw[hgs,hst] at x7
   simpa using x7
  have hp6:p0.length<=6000:=by
   have h9:=f1.anf
   have h7:=f2.le
   omega
  rw[hpl] at hsv hgc
  subst hsv
  have o1:=x3.cellC (g:=g) (c:=cap) (n:=p0.length+1) rfl p0.length (by omega)
  rw[show ps[p0.length]'(by omega)=pt from by simp[hps]] at o1
  have hown1:iw N7 wr (fb+1) (.slice (some ⟨g,0,none⟩) p0.length cap) p0:=by
   have h9:=x3
   rw[←hpl] at h9
   have h8:=h9.ayg (m:=p0.length) (by omega)
   rw[show ps.take p0.length=p0 from by rw[hps,List.take_left]] at h8
   exact h8
  obtain⟨_,_,Q5,_,_,hxx⟩:=uh Zp
  simp only[Value.slice.injEq] at Q5
  obtain⟨rfl,_,rfl⟩:=Q5
  obtain⟨cb,co,cs,rfl,_,hcb,hcs,hcc,hRR⟩:=hxx i hi
  obtain⟨rfl,hsn,ait,hvl⟩:=hRR
  have c0:=(x1.old.cell (p:=⟨cb,_,none⟩) hcb).trans (hcc 0 (by simp))
  have c1:=(x1.old.cell (p:=⟨cb,_,none⟩) hcb).trans (hcc 1 (by simp))
  have c2:=(x1.old.cell (p:=⟨cb,_,none⟩) hcb).trans (hcc 2 (by simp))
  simp only[Nat.mul_one,Nat.add_zero,List.getElem_cons_zero,List.getElem_cons_succ] at c0 c1 c2
  have hW:=uh HW
  have hfb:=uh HFB
  have hri:i<r.size:=by rw[x5b];exact hi
  have r0:=x5.cell (i:=i) (v:=r[i]) (by simp[hri])
  have r0z:=x5.free i
  generalize r[i]=rv at r0
  have hA:CxA W w nv vs G sb vb ov D C L C' L' N' code.length fb p0.length g cap p0 pt i cb (co+i*3) code[i] (wr.setCell ⟨fb,i,none⟩ (.pointer (some ⟨pt,0,none⟩))):=by
   have hgr:=H7 wr ⟨fb,i,none⟩ (.pointer (some ⟨pt,0,none⟩))
   have hset:=x5.set i (.pointer (some ⟨pt,0,none⟩))
   have hc:∀{a:Addr} {v:Value},a.block<W.heap.size->wr.cell? a=some v->(wr.setCell ⟨fb,i,none⟩ (.pointer (some ⟨pt,0,none⟩))).cell? a=some v:=fun {a v} ha h9=>(World.cell?_setCell_far _ _ _ _ (by simp only;omega)).trans h9
   refine⟨x1.row x5 (by decide) (by decide) (by decide) (by decide) (by omega) hgr,x2.aiq hgr (by simp only;omega) hW,hown1.Dp (fun b hb=>?_),⟨_,hset,by rw[Array.size_setIfInBounds];exact x5b⟩,hset.cell (v:=xk pt) (by simp[hri,xk]),hc hcb c0,hc hcb c1,hc hcb c2⟩
   have hbg:b=g:=by
    have h9:(Value.slice (some ⟨g,0,none⟩) p0.length cap).ownBlock=some g:=rfl
    rw[h9] at hb
    exact(Option.some.inj hb).symm
   exact Below.heap_setCell _ _ _ _ (by simp only;omega)
  have HA:=hide hA
  have abm:Hid (Calls Tryz.prog 156 #[.pointer (some ⟨sb,0,none⟩),.agg #[.int .i64 code[i].op,.int .i64 code[i].val,.string code[i].name],.pointer (some ⟨pt,0,none⟩)] (wr.setCell ⟨fb,i,none⟩ (.pointer (some ⟨pt,0,none⟩))).drew fun e w'=>e=.returned (.bool (Qx vs code[i] top))∧Hid (CxA W w nv vs G sb vb ov D C L C' L' N' code.length fb p0.length g cap p0 pt i cb (co+i*3) code[i] w')∧(w'.cell? ⟨fb,i,none⟩=some (.pointer (some ⟨pt,0,none⟩))∧w'.cell? ⟨cb,co+i*3,none⟩=some (.int .i64 code[i].op)∧w'.cell? ⟨cb,co+i*3+1,none⟩=some (.int .i64 code[i].val)∧w'.cell? ⟨cb,co+i*3+2,none⟩=some (.string code[i].name))):=by
   have hbd:Below (wr.setCell ⟨fb,i,none⟩ (.pointer (some ⟨pt,0,none⟩))).heap.size (wr.setCell ⟨fb,i,none⟩ (.pointer (some ⟨pt,0,none⟩))) (wr.setCell ⟨fb,i,none⟩ (.pointer (some ⟨pt,0,none⟩))).drew:=(Below.refl _ _).drew
   have hAd:=hA.below hbd
   refine hide ((awl W _ nv vs G sb vb ov D C' L' N' hAd.sc code[i] (by unfold Len at hsn;unfold maxLen;omega) hop ayi top pt htop).mono ?_)
   rintro e w' ⟨rfl,hb⟩
   have hAe:=hA.below (Dx hb)
   exact⟨rfl,hAe,hAe.fc,hAe.i0,hAe.i1,hAe.i2⟩
  have HBAD:Hid (Qx vs code[i] top=false->∀w',CxA W w nv vs G sb vb ov D C L C' L' N' code.length fb p0.length g cap p0 pt i cb (co+i*3) code[i] w'->PO (.returned (.slice none 0 0)) w'):=fun h9 w' ha=>by
   rw[uh qy]
   refine⟨_,C',L',N',rfl,ha.sc,by omega,ha.gr,fun h8=>?_,fun _=>rfl⟩
   rw[x8,hgs,hst,ais ss s0 _ _ asr] at h8
   simp only at h8
   rw[agi vs code[i] us top pz,h9] at h8
   simp at h8
  have HOP:Hid (Qx vs code[i] top=true->∀w',CxA W w nv vs G sb vb ov D C L C' L' N' code.length fb p0.length g cap p0 pt i cb (co+i*3) code[i] w'->Calls Tryz.prog 157 #[.agg #[.int .i64 code[i].op,.int .i64 code[i].val,.string code[i].name],.pointer (some ⟨pt,0,none⟩)] w'.drew fun e w3=>∃(ob n2 g' cap':Nat) (w4:World),e=.returned (.slice (some ⟨ob,0,none⟩) n2 n2)∧(∀ty,(Builtin.append_ #[201,201] ty #[.slice (some ⟨g,0,none⟩) p0.length cap,.slice (some ⟨ob,0,none⟩) n2 n2]).run Tryz.prog w3=.ok (.slice (some ⟨g',0,none⟩) (p0.length+n2) cap') w4)∧Hid (CxI W w nv vs G sb vb ov D C L N code ok fb i (.slice (some ⟨g',0,none⟩) (p0.length+n2) cap') w4) ∧
   (w3.cell? ⟨fb,i,none⟩=some (.pointer (some ⟨pt,0,none⟩))∧w3.cell? ⟨cb,co+i*3,none⟩=some (.int .i64 code[i].op)∧w3.cell? ⟨cb,co+i*3+1,none⟩=some (.int .i64 code[i].val)∧w3.cell? ⟨cb,co+i*3+2,none⟩=some (.string code[i].name)) ∧
   (w4.cell? ⟨fb,i,none⟩=some (.pointer (some ⟨pt,0,none⟩))∧w4.cell? ⟨cb,co+i*3,none⟩=some (.int .i64 code[i].op)∧w4.cell? ⟨cb,co+i*3+1,none⟩=some (.int .i64 code[i].val)∧w4.cell? ⟨cb,co+i*3+2,none⟩=some (.string code[i].name))):=fun hft w' ha=>by
   have had:=ha.below ((Below.refl _ _).drew)
   have hNN:=uh HN
   refine(asj w'.drew W.heap.size (fun x=>x=vb) C' L' N' had.sc.trie had.sc.old.size code[i] (by unfold Len at hsn;unfold maxLen;omega) hop (by omega) top (by have:=x10 top (by rw[hst];simp);omega) (fun h9=>asl h9 hft) pt htop).mono ?_
   intro e w3 hoc
   exact had.push rfl hW hfb hcb s0 top hs0 htop hi rfl hnl (fun c hc=>x10 c (by rw[hst];exact hc)) m0 ss us f1 f2 pz asr ok (by rw[x8,hgs,hst]) (by omega) hft hoc
  have a0:=hA.i0
  have a1:=hA.i1
  have a2:=hA.i2
  have a3:(wr.setCell ⟨fb,i,none⟩ (.pointer (some ⟨pt,0,none⟩))).cell? ⟨fb,i,none⟩=some (.pointer (some ⟨pt,0,none⟩)):=hA.fc
  have Yb:(0:Int)<=(i:Int):=by omega
  have hiL:(i:Int)<(code.length:Int):=by omega
  have hpI:(p0.length:Int)<(p0.length:Int)+1:=by omega
  have hpc:(p0.length:Int)<=(cap:Int):=by omega
  have a5q:¬cap=0:=by omega
  have hw1:IntKind.i64.wrap ((p0.length:Int)+1-1)=(p0.length:Int):=by
   rw[IntKind.wrap_i64]
   omega
  have hw2:IntKind.i64.wrap (p0.length:Int)=(p0.length:Int):=by
   rw[IntKind.wrap_i64]
   omega
  have hw3:IntKind.i64.wrap ((i:Int)-1)=(i:Int)-1:=by
   rw[IntKind.wrap_i64]
   omega
  have HI:=hide hi
  have o1':wr.cell? ⟨g,p0.length,none⟩=some (.pointer (some ⟨pt,0,none⟩)):=o1
  have a5r:=hp6
  generalize hbB:Qx vs code[i] top=bB at *
  generalize code[i]=t at *
  clear hiv hA x1 x2 x3 x4 x5 x5b x6 x7 x8 x9 x10 hst hps hs0 htop ayh hgs f1 f2 pz hop ayi hit hpl hsl0 asr hown1 hxx hcc hcs hcb hsn ait hvl c0 c1 c2 o1 hri hbB hgb a2a hW hfb hp6 hgc hi hk HW HN HNM Ov HS HFB
  generalize p0.length=m at *
  obtain⟨wS,Va⟩:∃z,z=wr.setCell ⟨fb,i,none⟩ (.pointer (some ⟨pt,0,none⟩)):=⟨_,rfl⟩
  cases bB
  ·have HF:=hide (uh HBAD rfl)
   clear HBAD HOP
   go_wp2_with fail
   rw[←Va] at HA abm a0 a1 a2 a3 ⊢
   clear Va
   go_region_held3 (fun w'=>w'.cell? ⟨fb,i,none⟩=some (.pointer (some ⟨pt,0,none⟩))∧w'.cell? ⟨cb,co+i*3,none⟩=some (.int .i64 t.op)∧w'.cell? ⟨cb,co+i*3+1,none⟩=some (.int .i64 t.val)∧w'.cell? ⟨cb,co+i*3+2,none⟩=some (.string t.name)) (go_keep) (first|(go_at_call 156;refine(uh abm).mono ?_;rintro e w2 ⟨rfl,HA2,z0,z1,z2,z3⟩))
   have HE:=hide (uh HF w2 (uh HA2))
   clear z0 z1 z2 z3 a0 a1 a2 a3 abm HF HA HA2
   go_wp2
   exact uh HE
  ·have HF:=hide (uh HOP rfl)
   clear HBAD HOP
   go_wp2_with fail
   rw[←Va] at HA abm a0 a1 a2 a3 ⊢
   clear Va
   go_region_held3 (fun w'=>w'.cell? ⟨fb,i,none⟩=some (.pointer (some ⟨pt,0,none⟩))∧w'.cell? ⟨cb,co+i*3,none⟩=some (.int .i64 t.op)∧w'.cell? ⟨cb,co+i*3+1,none⟩=some (.int .i64 t.val)∧w'.cell? ⟨cb,co+i*3+2,none⟩=some (.string t.name)) (go_keep) (first|(go_at_call 156;refine(uh abm).mono ?_;rintro e w2 ⟨rfl,HA2,z0,z1,z2,z3⟩))
   have Jh:=hide (uh HF w2 (uh HA2))
   clear a0 a1 a2 a3 abm HF HA HA2 o1' r0 r0z
   go_wp2_with fail
   go_region_held3 (fun w'=>w'.cell? ⟨fb,i,none⟩=some (.pointer (some ⟨pt,0,none⟩))∧w'.cell? ⟨cb,co+i*3,none⟩=some (.int .i64 t.op)∧w'.cell? ⟨cb,co+i*3+1,none⟩=some (.int .i64 t.val)∧w'.cell? ⟨cb,co+i*3+2,none⟩=some (.string t.name)) (go_keep) (first|(go_at_call 157;refine(uh Jh).mono ?_;rintro e w3 ⟨ob,n2,g',cap',w4,rfl,hrun,HCX,⟨y0,y1,y2,y3⟩,⟨v0,v1,v2,v3⟩⟩)|(refine Q9 rfl _ _ 201 201 rfl rfl _ _ _ rfl rfl (hrun _) ?_))
   clear z0 z1 z2 z3 y0 y1 y2 y3 v0 v1 v2 v3 hrun Jh
   go_wp2
   go_roundg i
   case measure =>
    have h9:=uh HG
    omega
   case rel=>exact⟨i,by have:=uh HI;omega,rfl,by go_num,uh HCX⟩
end Go.Proofs.YtflcnhfakcgkeaaGreat
