import Derived.Test.YtjjldnkhadakcaaGreatST8
import Derived.Test.YtjjldnkhadakcaaGreatMData
import Derived.Test.YtjjldnkhadakcaaGreatM12
import Derived.Test.YtjjldnkhadakcaaGreatMI17
import Derived.Test.YtjjldnkhadakcaaGreatStepAll
namespace Go.Proofs.YtjjldnkhadakcaaGreat
open Go.RowKit
set_option linter.unusedSimpArgs false
set_option linter.unusedVariables false
abbrev Tri:=Option Addr × Nat × Nat
def triV (x : Tri) : Value:=.slice x.1 x.2.1 x.2.2
def elSS : ElF Tryz.prog Tri where
 T:=62
 ST:=128
 sz:=1
 byt:=24
 f:=fun x => [.slice x.1 x.2.1 x.2.2]
 z:=.slice none 0 0
 hT:=Tryz.underlying128
 hi:=by kernel_rfl
 hz:=rfl
 hf:=fun _ => rfl
 h1:=fun c u hu => by
  simp only [List.mem_cons,List.not_mem_nil,or_false] at hu
  rcases hu with rfl
  rfl
 hsz:=by decide
 hby:=by decide
def elSI : ElF Tryz.prog Tri where
 T:=35
 ST:=129
 sz:=1
 byt:=24
 f:=fun x => [.slice x.1 x.2.1 x.2.2]
 z:=.slice none 0 0
 hT:=Tryz.underlying129
 hi:=by kernel_rfl
 hz:=rfl
 hf:=fun _ => rfl
 h1:=fun c u hu => by
  simp only [List.mem_cons,List.not_mem_nil,or_false] at hu
  rcases hu with rfl
  rfl
 hsz:=by decide
 hby:=by decide
structure PRows (P : Nat → Prop) (w : World) (ks : List DClass) (i : Nat) (X0 X1 X2 : List Tri) (ots ens : List (List Int)) : Prop where
 l0 : X0.length = i
 l1 : X1.length = i
 l2 : X2.length = i
 lo : ots.length = i
 le : ens.length = i
 nm : ∀ j (h : j < X0.length) (k : DClass),ks[j]? = some k → SlAt 1 16 RStr 0 w (triV X0[j]) (varsOf k) ∧ ∀ b,(triV X0[j]).ownBlock = some b → P b
 ot : ∀ j (h : j < X1.length) (h' : j < ots.length),SlAt 1 8 RInt 0 w (triV X1[j]) ots[j] ∧ ∀ b,(triV X1[j]).ownBlock = some b → P b
 en : ∀ j (h : j < X2.length) (h' : j < ens.length),SlAt 1 8 RInt 0 w (triV X2[j]) ens[j] ∧ ∀ b,(triV X2[j]).ownBlock = some b → P b
 pt : ∀ (j : Nat) (k : DClass),j < i → ks[j]? = some k → ∃ ot en,ots[j]? = some ot ∧ ens[j]? = some en ∧ (treeOf ks k).parts 0 ot en
theorem RStr_any : ∀ (w w' : World) (cs : List Value) (x : ByteArray),RStr 0 w cs x → RStr 0 w' cs x:=fun _ _ _ _ h => h
theorem RInt_any : ∀ (w w' : World) (cs : List Value) (x : Int),RInt 0 w cs x → RInt 0 w' cs x:=fun _ _ _ _ h => h
theorem PRows.keptP {P : Nat → Prop} {w w' : World} {ks : List DClass} {i : Nat} {X0 X1 X2 : List Tri} {ots ens : List (List Int)} (h : PRows P w ks i X0 X1 X2 ots ens) (hk : KeptP P w w') : PRows P w' ks i X0 X1 X2 ots ens :=
 ⟨h.l0,h.l1,h.l2,h.lo,h.le,fun j a k hk' => ⟨(h.nm j a k hk').1.keptP RStr_any hk (h.nm j a k hk').2,(h.nm j a k hk').2⟩,fun j a b => ⟨(h.ot j a b).1.keptP RInt_any hk (h.ot j a b).2,(h.ot j a b).2⟩,fun j a b => ⟨(h.en j a b).1.keptP RInt_any hk (h.en j a b).2,(h.en j a b).2⟩,h.pt⟩
theorem PRows.mono {P Q : Nat → Prop} {w : World} {ks : List DClass} {i : Nat} {X0 X1 X2 : List Tri} {ots ens : List (List Int)} (h : PRows P w ks i X0 X1 X2 ots ens) (hq : ∀ b,P b → Q b) : PRows Q w ks i X0 X1 X2 ots ens :=
 ⟨h.l0,h.l1,h.l2,h.lo,h.le,fun j a k hk' => ⟨(h.nm j a k hk').1,fun b hb => hq b ((h.nm j a k hk').2 b hb)⟩,fun j a b => ⟨(h.ot j a b).1,fun c hc => hq c ((h.ot j a b).2 c hc)⟩,fun j a b => ⟨(h.en j a b).1,fun c hc => hq c ((h.en j a b).2 c hc)⟩,h.pt⟩
theorem PRows.next {P : Nat → Prop} {w : World} {ks : List DClass} {i : Nat} {X0 X1 X2 : List Tri} {ots ens : List (List Int)} (h : PRows P w ks i X0 X1 X2 ots ens) {k : DClass} (hk : ks[i]? = some k) {x0 x1 x2 : Tri} {ot en : List Int} (h0 : SlAt 1 16 RStr 0 w (triV x0) (varsOf k) ∧ ∀ b,(triV x0).ownBlock = some b → P b) (h1 : SlAt 1 8 RInt 0 w (triV x1) ot ∧ ∀ b,(triV x1).ownBlock = some b → P b) (h2 : SlAt 1 8 RInt 0 w (triV x2) en ∧ ∀ b,(triV x2).ownBlock = some b → P b) (hp : (treeOf ks k).parts 0 ot en) :
  PRows P w ks (i + 1) (X0 ++ [x0]) (X1 ++ [x1]) (X2 ++ [x2]) (ots ++ [ot]) (ens ++ [en]):=by
 refine ⟨by simp [h.l0],by simp [h.l1],by simp [h.l2],by simp [h.lo],by simp [h.le],fun j a k' hk' => ?_,fun j a b => ?_,fun j a b => ?_,fun j k' hj hk' => ?_⟩
 ·rw [List.length_append,List.length_singleton,h.l0] at a
  by_cases e : j = i
  ·subst e
   rw [hk'] at hk
   cases hk
   have e9 : (X0 ++ [x0])[j]'(by simp [h.l0]) = x0:=by rw [List.getElem_append_right (by rw [h.l0]; exact Nat.le_refl _)]; simp [h.l0]
   rw [e9]
   exact h0
  ·rw [List.getElem_append_left (by rw [h.l0]; omega)]
   exact h.nm j (by rw [h.l0]; omega) k' hk'
 ·rw [List.length_append,List.length_singleton,h.l1] at a
  by_cases e : j = i
  ·subst e
   have e9 : (X1 ++ [x1])[j]'(by simp [h.l1]) = x1:=by rw [List.getElem_append_right (by rw [h.l1]; exact Nat.le_refl _)]; simp [h.l1]
   have e8 : (ots ++ [ot])[j]'(by simp [h.lo]) = ot:=by rw [List.getElem_append_right (by rw [h.lo]; exact Nat.le_refl _)]; simp [h.lo]
   rw [e9,e8]
   exact h1
  ·rw [List.getElem_append_left (by rw [h.l1]; omega),List.getElem_append_left (by rw [h.lo]; omega)]
   exact h.ot j (by rw [h.l1]; omega) (by rw [h.lo]; omega)
 ·rw [List.length_append,List.length_singleton,h.l2] at a
  by_cases e : j = i
  ·subst e
   have e9 : (X2 ++ [x2])[j]'(by simp [h.l2]) = x2:=by rw [List.getElem_append_right (by rw [h.l2]; exact Nat.le_refl _)]; simp [h.l2]
   have e8 : (ens ++ [en])[j]'(by simp [h.le]) = en:=by rw [List.getElem_append_right (by rw [h.le]; exact Nat.le_refl _)]; simp [h.le]
   rw [e9,e8]
   exact h2
  ·rw [List.getElem_append_left (by rw [h.l2]; omega),List.getElem_append_left (by rw [h.le]; omega)]
   exact h.en j (by rw [h.l2]; omega) (by rw [h.le]; omega)
 ·by_cases e : j = i
  ·subst e
   rw [hk'] at hk
   cases hk
   refine ⟨ot,en,?_,?_,hp⟩
   ·rw [List.getElem?_append_right (by rw [h.lo]; exact Nat.le_refl _),h.lo,Nat.sub_self]; rfl
   ·rw [List.getElem?_append_right (by rw [h.le]; exact Nat.le_refl _),h.le,Nat.sub_self]; rfl
  ·obtain ⟨ot',en',g1,g2,g3⟩:=h.pt j k' (by omega) hk'
   exact ⟨ot',en',by rw [List.getElem?_append_left (by rw [h.lo]; omega)]; exact g1,by rw [List.getElem?_append_left (by rw [h.le]; omega)]; exact g2,g3⟩
theorem step_append_oneN {P : Program} {α : Type} (E : ElF P α) (w : World) {ops : Array Oper} {o : Oper} {a : Act} {K : Act → World → Prop} {Q : Exit → Act → World → Prop} {Er : Prop} (hgd : o.guard = none) (s x : Operand)
  (ho : o.op = .call { callee:=.builtin .append,args:=#[s,x],argTypes:=#[E.ST,E.ST] })
  (base : Nat) (v : Value) (xs : List α) (hs : a.eval s = v) (hown : OwnV E w base v xs)
  (eb : Nat) (y : α) (hx : a.eval x = .slice (some ⟨eb,0,none⟩) 1 1) (hy : ∀ j u,(E.f y)[j]? = some u → w.cell? ⟨eb,j,none⟩ = some u) (hb : (xs.length + 1) * E.byt ≤ 140737488355328) (hbase : base ≤ w.heap.size)
  (h : ∀ v' w',OwnV E w' base v' (xs ++ [y]) → w.grownBy w' v.ownBlock → (∀ b,v'.ownBlock = some b → v.ownBlock = some b ∨ w.heap.size ≤ b) → K (a.put o.dst v') w') :
  if Region.wanted o (yielded ops a.tmps) = true then Oper.wp P o a w K Q else Er:=by
 have hwant : Region.wanted o (yielded ops a.tmps) = true:=by simp [Region.wanted,hgd]
 rw [if_pos hwant]
 obtain ⟨i,hi,hz0,hz1,hz2⟩:=info_parts E.hi
 have hlen : xs.length + 1 ≤ 140737488355328:=Nat.le_trans (Nat.le_mul_of_pos_right _ E.hby) hb
 obtain ⟨v',w',hr,h2,h3,h4⟩:=run_append_new (P:=P) (w:=w) base E.ST o.type E.T i _ E.sz E.byt E.hT hi hz0 hz1 hz2 E.hz E.hsz v xs.length (xs.flatMap E.f) hown ⟨eb,0,none⟩ 1 1 (E.f y) (by rw [E.hf]; omega) (fun j u hu => by rw [Addr.add_lit,Nat.zero_add]; exact hy j u hu) (E.h1 y) (by simp [maxLen]; omega) hb hbase
 unfold Oper.wp execOp
 simp only [ho,resolve,invoke,builtin,Sem.run_bind,Sem.run_pure,Result.andThen_ok,List.map_toArray,List.map_cons,List.map_nil,hs,hx,hr]
 refine h v' w' ?_ h3 h4
 unfold OwnV
 rw [List.length_append,List.flatMap_append]
 simpa using h2
def PP (pb : Nat) (w : World) (V0 V1 V2 : Value) (b : Nat) : Prop:=New (pb + 1) w.heap.size b ∧ V0.ownBlock ≠ some b ∧ V1.ownBlock ≠ some b ∧ V2.ownBlock ≠ some b
structure PSt (w : World) (pb : Nat) (V0 V1 V2 V3 : Value) (X0 X1 X2 : List Tri) : Prop where
 blk : BlkAt w pb 131 #[V0,V1,V2,V3]
 o0 : OwnV elSS w (pb + 1) V0 X0
 o1 : OwnV elSI w (pb + 1) V1 X1
 o2 : OwnV elSI w (pb + 1) V2 X2
 ne : ∀ b,V1.ownBlock = some b → V2.ownBlock ≠ some b
 n1 : ∀ b,V0.ownBlock = some b → V1.ownBlock ≠ some b
 n2 : ∀ b,V0.ownBlock = some b → V2.ownBlock ≠ some b
structure Nx (pb : Nat) (w w' : World) (P P' : Nat → Prop) : Prop where
 kept : KeptP P w w'
 mono : ∀ b,P b → P' b
 below : Below pb w w'
theorem Nx.trans {pb : Nat} {w w' w'' : World} {P P' P'' : Nat → Prop} (h : Nx pb w w' P P') (k : Nx pb w' w'' P' P'') : Nx pb w w'' P P'' :=
 ⟨h.kept.trans ⟨k.kept.1,fun b hb hl => k.kept.2 b (h.mono b hb) hl⟩,fun b hb => k.mono b (h.mono b hb),h.below.trans k.below⟩
theorem Nx.rows {pb : Nat} {w w' : World} {P P' : Nat → Prop} (h : Nx pb w w' P P') {ks : List DClass} {i : Nat} {X0 X1 X2 : List Tri} {ots ens : List (List Int)} (hr : PRows P w ks i X0 X1 X2 ots ens) : PRows P' w' ks i X0 X1 X2 ots ens:=(hr.keptP h.kept).mono h.mono
theorem Nx.row {α : Type} {sz byt : Nat} {R : Nat → World → List Value → α → Prop} (hR : ∀ w w' cs x,R 0 w cs x → R 0 w' cs x) {pb : Nat} {w w' : World} {P P' : Nat → Prop} (h : Nx pb w w' P P') {v : Value} {xs : List α} (hr : SlAt sz byt R 0 w v xs ∧ ∀ b,v.ownBlock = some b → P b) : SlAt sz byt R 0 w' v xs ∧ ∀ b,v.ownBlock = some b → P' b :=
 ⟨hr.1.keptP hR h.kept hr.2,fun b hb => h.mono b (hr.2 b hb)⟩
theorem PSt.later {w w' : World} {pb : Nat} {V0 V1 V2 V3 : Value} {X0 X1 X2 : List Tri} (h : PSt w pb V0 V1 V2 V3 X0 X1 X2) (hb : Below w.heap.size w w') : PSt w' pb V0 V1 V2 V3 X0 X1 X2 ∧ Nx pb w w' (PP pb w V0 V1 V2) (PP pb w' V0 V1 V2) :=
 ⟨⟨h.blk.below hb h.blk.lt,h.o0.below hb,h.o1.below hb,h.o2.below hb,h.ne,h.n1,h.n2⟩,KeptP.of_below hb,fun b hp => ⟨⟨hp.1.1,Nat.lt_of_lt_of_le hp.1.2 hb.size⟩,hp.2⟩,hb.mono (Nat.le_of_lt h.blk.lt)⟩
theorem put_below {α : Type} {E : ElF Tryz.prog α} {w w' : World} {pb : Nat} {V v : Value} {X : List α} (ho : OwnV E w (pb + 1) V X) (hpb : pb < w.heap.size) (hg : w.grownBy w' V.ownBlock) (o : Nat) : Below pb w (w'.setCell ⟨pb,o,none⟩ v):=by
 have h1 : Below pb w w':=ho.grown (Below.refl pb w) hg (by omega) (by omega)
 exact h1.trans ((But.setCell _ (p:=⟨pb,o,none⟩) (List.mem_singleton.2 rfl) _).below _ (by have:=h1.size; omega) (fun k9 hk9 => by rw [List.mem_singleton] at hk9; subst hk9; exact Nat.le_refl _))
theorem put_other {w w' : World} {pb b o : Nat} {V v : Value} (hg : w.grownBy w' V.ownBlock) (hb : b < w.heap.size) (h1 : b ≠ pb) (h2 : V.ownBlock ≠ some b) : (w'.setCell ⟨pb,o,none⟩ v).heap[b]? = w.heap[b]? :=
 (Below.heap_setCell _ _ _ _ h1).trans (grown_keep hg hb h2)
theorem put_size {w w' : World} {o : Option Nat} (hg : w.grownBy w' o) (p : Addr) (v : Value) : w.heap.size ≤ (w'.setCell p v).heap.size:=by
 rw [World.size_setCell]
 exact hg.size
theorem PSt.app0 {w w' : World} {pb : Nat} {V0 V1 V2 V3 v : Value} {X0 X1 X2 : List Tri} {x : Tri} (h : PSt w pb V0 V1 V2 V3 X0 X1 X2) (ho : OwnV elSS w' (pb + 1) v (X0 ++ [x])) (hg : w.grownBy w' V0.ownBlock) (hn : ∀ b,v.ownBlock = some b → V0.ownBlock = some b ∨ w.heap.size ≤ b) :
  PSt (w'.setCell ⟨pb,0,none⟩ v) pb v V1 V2 V3 (X0 ++ [x]) X1 X2 ∧ Nx pb w (w'.setCell ⟨pb,0,none⟩ v) (PP pb w V0 V1 V2) (PP pb (w'.setCell ⟨pb,0,none⟩ v) v V1 V2):=by
 have hb' : BlkAt w' pb 131 #[V0,V1,V2,V3]:=(grown_keep hg h.blk.lt (fun e => by have:=h.o0.block _ e; omega)).trans h.blk
 have e1 : ∀ b,V1.ownBlock = some b → (w'.setCell ⟨pb,0,none⟩ v).heap[b]? = w.heap[b]?:=fun b hb => put_other hg (h.o1.lt b hb).2 (by have:=h.o1.block b hb; omega) (fun e => h.n1 b e hb)
 have e2 : ∀ b,V2.ownBlock = some b → (w'.setCell ⟨pb,0,none⟩ v).heap[b]? = w.heap[b]?:=fun b hb => put_other hg (h.o2.lt b hb).2 (by have:=h.o2.block b hb; omega) (fun e => h.n2 b e hb)
 refine ⟨⟨hb'.set 0 v,?_,h.o1.ofBlock e1,h.o2.ofBlock e2,h.ne,?_,?_⟩,⟨put_size hg _ _,fun b hp hb => put_other hg hb (by have:=hp.1.1; omega) hp.2.1⟩,fun b hp => ⟨⟨hp.1.1,Nat.lt_of_lt_of_le hp.1.2 (put_size hg _ _)⟩,?_,hp.2.2⟩,put_below h.o0 h.blk.lt hg 0⟩
 ·exact ho.ofBlock (fun b hb => Below.heap_setCell _ _ _ _ (fun e => by have e1 : b = pb:=e; have:=ho.block b hb; omega))
 ·intro b hb e
  rcases hn b hb with h9 | h9
  ·exact h.n1 b h9 e
  ·have:=(h.o1.lt b e).2; omega
 ·intro b hb e
  rcases hn b hb with h9 | h9
  ·exact h.n2 b h9 e
  ·have:=(h.o2.lt b e).2; omega
 ·intro e
  rcases hn b e with h9 | h9
  ·exact hp.2.1 h9
  ·have:=hp.1.2; omega
theorem PSt.app1 {w w' : World} {pb : Nat} {V0 V1 V2 V3 v : Value} {X0 X1 X2 : List Tri} {x : Tri} (h : PSt w pb V0 V1 V2 V3 X0 X1 X2) (ho : OwnV elSI w' (pb + 1) v (X1 ++ [x])) (hg : w.grownBy w' V1.ownBlock) (hn : ∀ b,v.ownBlock = some b → V1.ownBlock = some b ∨ w.heap.size ≤ b) :
  PSt (w'.setCell ⟨pb,1,none⟩ v) pb V0 v V2 V3 X0 (X1 ++ [x]) X2 ∧ Nx pb w (w'.setCell ⟨pb,1,none⟩ v) (PP pb w V0 V1 V2) (PP pb (w'.setCell ⟨pb,1,none⟩ v) V0 v V2):=by
 have hb' : BlkAt w' pb 131 #[V0,V1,V2,V3]:=(grown_keep hg h.blk.lt (fun e => by have:=h.o1.block _ e; omega)).trans h.blk
 have e1 : ∀ b,V0.ownBlock = some b → (w'.setCell ⟨pb,1,none⟩ v).heap[b]? = w.heap[b]?:=fun b hb => put_other hg (h.o0.lt b hb).2 (by have:=h.o0.block b hb; omega) (h.n1 b hb)
 have e2 : ∀ b,V2.ownBlock = some b → (w'.setCell ⟨pb,1,none⟩ v).heap[b]? = w.heap[b]?:=fun b hb => put_other hg (h.o2.lt b hb).2 (by have:=h.o2.block b hb; omega) (fun e => h.ne b e hb)
 refine ⟨⟨hb'.set 1 v,h.o0.ofBlock e1,?_,h.o2.ofBlock e2,?_,?_,h.n2⟩,⟨put_size hg _ _,fun b hp hb => put_other hg hb (by have:=hp.1.1; omega) hp.2.2.1⟩,fun b hp => ⟨⟨hp.1.1,Nat.lt_of_lt_of_le hp.1.2 (put_size hg _ _)⟩,hp.2.1,?_,hp.2.2.2⟩,put_below h.o1 h.blk.lt hg 1⟩
 ·exact ho.ofBlock (fun b hb => Below.heap_setCell _ _ _ _ (fun e => by have e1 : b = pb:=e; have:=ho.block b hb; omega))
 ·intro b hb e
  rcases hn b hb with h9 | h9
  ·exact h.ne b h9 e
  ·have:=(h.o2.lt b e).2; omega
 ·intro b e hb
  rcases hn b hb with h9 | h9
  ·exact h.n1 b e h9
  ·have:=(h.o0.lt b e).2; omega
 ·intro e
  rcases hn b e with h9 | h9
  ·exact hp.2.2.1 h9
  ·have:=hp.1.2; omega
theorem PSt.app2 {w w' : World} {pb : Nat} {V0 V1 V2 V3 v : Value} {X0 X1 X2 : List Tri} {x : Tri} (h : PSt w pb V0 V1 V2 V3 X0 X1 X2) (ho : OwnV elSI w' (pb + 1) v (X2 ++ [x])) (hg : w.grownBy w' V2.ownBlock) (hn : ∀ b,v.ownBlock = some b → V2.ownBlock = some b ∨ w.heap.size ≤ b) :
  PSt (w'.setCell ⟨pb,2,none⟩ v) pb V0 V1 v V3 X0 X1 (X2 ++ [x]) ∧ Nx pb w (w'.setCell ⟨pb,2,none⟩ v) (PP pb w V0 V1 V2) (PP pb (w'.setCell ⟨pb,2,none⟩ v) V0 V1 v):=by
 have hb' : BlkAt w' pb 131 #[V0,V1,V2,V3]:=(grown_keep hg h.blk.lt (fun e => by have:=h.o2.block _ e; omega)).trans h.blk
 have e1 : ∀ b,V0.ownBlock = some b → (w'.setCell ⟨pb,2,none⟩ v).heap[b]? = w.heap[b]?:=fun b hb => put_other hg (h.o0.lt b hb).2 (by have:=h.o0.block b hb; omega) (h.n2 b hb)
 have e2 : ∀ b,V1.ownBlock = some b → (w'.setCell ⟨pb,2,none⟩ v).heap[b]? = w.heap[b]?:=fun b hb => put_other hg (h.o1.lt b hb).2 (by have:=h.o1.block b hb; omega) (h.ne b hb)
 refine ⟨⟨hb'.set 2 v,h.o0.ofBlock e1,h.o1.ofBlock e2,?_,?_,h.n1,?_⟩,⟨put_size hg _ _,fun b hp hb => put_other hg hb (by have:=hp.1.1; omega) hp.2.2.2⟩,fun b hp => ⟨⟨hp.1.1,Nat.lt_of_lt_of_le hp.1.2 (put_size hg _ _)⟩,hp.2.1,hp.2.2.1,?_⟩,put_below h.o2 h.blk.lt hg 2⟩
 ·exact ho.ofBlock (fun b hb => Below.heap_setCell _ _ _ _ (fun e => by have e1 : b = pb:=e; have:=ho.block b hb; omega))
 ·intro b e hb
  rcases hn b hb with h9 | h9
  ·exact h.ne b e h9
  ·have:=(h.o1.lt b e).2; omega
 ·intro b e hb
  rcases hn b hb with h9 | h9
  ·exact h.n2 b e h9
  ·have:=(h.o0.lt b e).2; omega
 ·intro e
  rcases hn b e with h9 | h9
  ·exact hp.2.2.2 h9
  ·have:=hp.1.2; omega
theorem PSt.room0 {w w' : World} {pb : Nat} {V0 V1 V2 V3 : Value} {X0 X1 X2 : List Tri} (h : PSt w pb V0 V1 V2 V3 X0 X1 X2) (hg : w.grownBy w' V0.ownBlock) : BlkAt w' pb 131 #[V0,V1,V2,V3]:=(grown_keep hg h.blk.lt (fun e => by have:=h.o0.block _ e; omega)).trans h.blk
theorem PSt.room1 {w w' : World} {pb : Nat} {V0 V1 V2 V3 : Value} {X0 X1 X2 : List Tri} (h : PSt w pb V0 V1 V2 V3 X0 X1 X2) (hg : w.grownBy w' V1.ownBlock) : BlkAt w' pb 131 #[V0,V1,V2,V3]:=(grown_keep hg h.blk.lt (fun e => by have:=h.o1.block _ e; omega)).trans h.blk
theorem PSt.room2 {w w' : World} {pb : Nat} {V0 V1 V2 V3 : Value} {X0 X1 X2 : List Tri} (h : PSt w pb V0 V1 V2 V3 X0 X1 X2) (hg : w.grownBy w' V2.ownBlock) : BlkAt w' pb 131 #[V0,V1,V2,V3]:=(grown_keep hg h.blk.lt (fun e => by have:=h.o2.block _ e; omega)).trans h.blk
theorem cells_list (ks : List DClass) (hp : plansB ks = true) : cTo ks ks.length = (List.range ks.length).map (fun c => ((fAt ks c).length : Int)):=by
 apply List.ext_getElem
 ·rw [cTo_length,List.length_map,List.length_range]
 ·intro j h1 h2
  rw [cTo_length] at h1
  have h3:=(plans_same ks hp).2 j
  rw [fTo_get ks _ _ h1,List.getD_eq_getElem?_getD,List.getElem?_eq_getElem (by rw [cTo_length]; exact h1),Option.getD_some] at h3
  rw [h3,List.getElem_map,List.getElem_range]
theorem inst_ok (ks : List DClass) (hp : plansB ks = true) : InstOK ks ∧ ks.length ≤ 200:=by
 have hf:=fok_of ks hp
 refine ⟨fun i hi => ⟨(hf.ins i hi).1.1,(hf.ins i hi).1.2,(hf.ins i hi).2⟩,?_⟩
 unfold plansB at hp
 rw [Bool.and_eq_true] at hp
 exact of_decide_eq_true hp.1
theorem row_list {w : World} {b : Nat} {xs : List Int} (h : BlkAt w b 3 (xs.map (Value.int .i64)).toArray) (hq : ∀ x,x ∈ xs → I64 x) (hn : xs.length ≤ 1000000) : SlAt 1 8 RInt 0 w (.slice (some ⟨b,0,none⟩) xs.length xs.length) xs:=by
 refine ⟨_,_,rfl,⟨by unfold Len; omega,Nat.le_refl _⟩,by unfold Len; omega,fun i hi => ⟨b,0,[.int .i64 xs[i]],rfl,Nat.zero_le _,h.lt,rfl,fun j hj => ?_,⟨rfl,hq _ (List.getElem_mem hi)⟩⟩⟩
 have hj0 : j = 0:=by simp at hj; omega
 subst hj0
 have h9:=h.cell (i:=i) (v:=.int .i64 xs[i]) (by simp [hi])
 simpa using h9
theorem set_row {w : World} {b : Nat} {xs : List Int} (h : BlkAt w b 3 (xs.map (Value.int .i64)).toArray) (p : Nat) (x : Int) : BlkAt (w.setCell ⟨b,p,none⟩ (.int .i64 x)) b 3 ((xs.set p x).map (Value.int .i64)).toArray:=by
 have h9:=h.set p (.int .i64 x)
 rw [List.map_set,← List.setIfInBounds_toArray]
 exact h9
theorem plTo_rng (ks : List Int) (n : Nat) : ∀ i,i ≤ ks.length → (∀ x,x ∈ (plTo ks n i).2.1 → 0 ≤ x ∧ x ≤ (i : Int)) ∧ (∀ x,x ∈ (plTo ks n i).2.2 → 0 ≤ x ∧ x ≤ (i : Int))
 | 0,_ => ⟨fun x hx => by
   have : x = 0:=(List.mem_replicate.1 (show x ∈ List.replicate n (0 : Int) from hx)).2
   omega,fun x hx => by
   have : x = 0:=(List.mem_replicate.1 (show x ∈ List.replicate n (0 : Int) from hx)).2
   omega⟩
 | i + 1,h => by
  obtain ⟨h1,h2⟩:=plTo_rng ks n i (by omega)
  rw [plTo_succ ks n i (by omega)]
  have m1 : ∀ x,x ∈ (plTo ks n i).2.1 → 0 ≤ x ∧ x ≤ ((i + 1 : Nat) : Int):=fun x hx => by have:=h1 x hx; omega
  have m2 : ∀ x,x ∈ (plTo ks n i).2.2 → 0 ≤ x ∧ x ≤ ((i + 1 : Nat) : Int):=fun x hx => by have:=h2 x hx; omega
  unfold plS
  split
  ·exact ⟨m1,m2⟩
  ·split
   ·refine ⟨fun x hx => ?_,m2⟩
    rcases List.mem_or_eq_of_mem_set hx with h9 | rfl
    ·exact m1 x h9
    ·omega
   ·split
    ·refine ⟨m1,fun x hx => ?_⟩
     rcases List.mem_or_eq_of_mem_set hx with h9 | rfl
     ·exact m2 x h9
     ·omega
    ·exact ⟨m1,m2⟩
theorem SlAt.conv {α β : Type} {sz byt : Nat} {R : Nat → World → List Value → α → Prop} {R' : Nat → World → List Value → β → Prop} {w : World} {v : Value} {xs : List α} {ys : List β} (h : SlAt sz byt R 0 w v xs) (hl : ys.length = xs.length) (hR : ∀ j (h1 : j < xs.length) (h2 : j < ys.length) cs,R 0 w cs xs[j] → R' 0 w cs ys[j]) : SlAt sz byt R' 0 w v ys:=by
 obtain ⟨a,cap,rfl,h1,h2,hx⟩:=h
 refine ⟨a,cap,by rw [hl],by rw [hl]; exact h1,by rw [hl]; exact h2,fun i hi => ?_⟩
 obtain ⟨b,o,cs,e1,e2,e3,e4,e5,e6⟩:=hx i (by omega)
 exact ⟨b,o,cs,e1,e2,e3,e4,e5,hR i (by omega) hi cs e6⟩
theorem splan_of {P : Nat → Prop} {wr : World} {ks : List DClass} {pb B : Nat} {V0 V1 V2 V3 : Value} {X0 X1 X2 : List Tri} {ots ens : List (List Int)} (hb : BlkAt wr pb 131 #[V0,V1,V2,V3]) (h0 : OwnV elSS wr B V0 X0) (h1 : OwnV elSI wr B V1 X1) (h2 : OwnV elSI wr B V2 X2) (hp : PRows P wr ks ks.length X0 X1 X2 ots ens) (hk : ks.length ≤ 200) (hc : SlAt 1 8 RInt 0 wr V3 ((List.range ks.length).map (fun c => ((fAt ks c).length : Int)))) : SPlan wr pb ks V0 V1 V2 V3 ots ens:=by
 have s0:=h0.at (R:=fun _ _ cs x => cs = elSS.f x) (fun x _ => rfl) (by show _ * 24 ≤ _; rw [hp.l0]; omega)
 have s1:=h1.at (R:=fun _ _ cs x => cs = elSI.f x) (fun x _ => rfl) (by show _ * 24 ≤ _; rw [hp.l1]; omega)
 have s2:=h2.at (R:=fun _ _ cs x => cs = elSI.f x) (fun x _ => rfl) (by show _ * 24 ≤ _; rw [hp.l2]; omega)
 refine ⟨hb.lt,hb.cell (i:=0) rfl,hb.cell (i:=1) rfl,hb.cell (i:=2) rfl,hb.cell (i:=3) rfl,?_,?_,?_,hc,fun c k hck => hp.pt c k (List.getElem?_eq_some_iff.1 hck).1 hck⟩
 ·refine s0.conv (by rw [List.length_map,hp.l0]) (fun j g1 g2 cs e => ⟨triV X0[j],e,?_⟩)
  rw [List.length_map] at g2
  have h9:=(hp.nm j g1 ks[j] (List.getElem?_eq_getElem g2)).1
  rw [List.getElem_map]
  exact h9
 ·exact s1.conv (by rw [hp.lo,hp.l1]) (fun j g1 g2 cs e => ⟨triV X1[j],e,(hp.ot j g1 g2).1⟩)
 ·exact s2.conv (by rw [hp.le,hp.l2]) (fun j g1 g2 cs e => ⟨triV X2[j],e,(hp.en j g1 g2).1⟩)
set_option maxRecDepth 20000 in
set_option maxHeartbeats 8000000 in
theorem newPlan_ok (ks : List DClass) (hp : plansB ks = true) (v : Value) (w : World) (hm : SlAt 7 160 RClass 0 w v ks) :
  Calls Tryz.prog 61 #[.agg #[v]] w fun e w' => ∃ pb v0 v1 v2 v3 ots ens,e = .returned (.pointer (some ⟨pb,0,none⟩)) ∧ SPlan w' pb ks v0 v1 v2 v3 ots ens ∧ Below w.heap.size w w':=by
 obtain ⟨ma,mc,rfl⟩:=hm.shape
 have hml:=hm.lenI
 have hA : Below w.heap.size w (w.alloc (.cells #[.slice ma ks.length mc] 29)):=(Below.refl _ _).alloc (Nat.le_refl _) _
 have HC:=hide (l3Cells_ok ks _ _ (hm.stays RClass_kept hA) (inst_ok ks hp).1 (inst_ok ks hp).2)
 rw [cells_list ks hp] at HC
 have HBX:=hide (blk_box w #[.slice ma ks.length mc] 29)
 have HM:=hide hm
 have HA:=hide hA
 have hk200:=(inst_ok ks hp).2
 clear hm hA
 go_enter Tryz.func61,Tryz.ntmps61
 go_wp2_with fail
 refine (uh HC).mono ?_
 rintro e w2 ⟨cv,rfl,hcv,hb2⟩
 obtain ⟨ca,cc,hce⟩:=hcv.shape
 subst hce
 have hB2:=(uh HA).trans (hb2.mono (uh HA).size)
 have hA3 : Below w2.heap.size w2 (w2.alloc (.cells #[.slice none 0 0,.slice none 0 0,.slice none 0 0,.slice ca ((List.range ks.length).map (fun c => ((fAt ks c).length : Int))).length cc] 131)):=(Below.refl _ _).alloc (Nat.le_refl _) _
 have hbm:=((uh HBX).below hb2 (uh HBX).lt).below hA3 (Nat.lt_of_lt_of_le (uh HBX).lt hb2.size)
 have bm0:=hbm.cell (i:=0) (v:=.slice ma ks.length mc) rfl
 have HP3:=hide (blk_box w2 #[.slice none 0 0,.slice none 0 0,.slice none 0 0,.slice ca ((List.range ks.length).map (fun c => ((fAt ks c).length : Int))).length cc] 131)
 have HZ3 : Hid ((w2.alloc (.cells #[.slice none 0 0,.slice none 0 0,.slice none 0 0,.slice ca ((List.range ks.length).map (fun c => ((fAt ks c).length : Int))).length cc] 131)).heap.size = w2.heap.size + 1):=by refine hide ?_; simp
 have HB2:=hide hB2
 have HA3:=hide hA3
 have HCV:=hide hcv
 clear hb2 hB2 hA3 hbm hcv HC
 generalize ((List.range ks.length).map (fun c => ((fAt ks c).length : Int))).length = cl at *
 go_wp2
 generalize w2.alloc (.cells #[.slice none 0 0,.slice none 0 0,.slice none 0 0,.slice ca cl cc] 131) = w3 at *
 clear bm0
 go_loopg [18] ks.length (fun gm iv wr => ∃ (i : Nat) (V0 V1 V2 : Value) (X0 X1 X2 : List Tri) (ots ens : List (List Int)),i ≤ ks.length ∧ gm = ks.length - i ∧ iv = .int .i64 i ∧ PSt wr w2.heap.size V0 V1 V2 (.slice ca cl cc) X0 X1 X2 ∧ PRows (PP w2.heap.size wr V0 V1 V2) wr ks i X0 X1 X2 ots ens ∧ Below w2.heap.size w2 wr)
 case atStart =>
  refine ⟨0,_,_,_,[],[],[],[],[],Nat.zero_le _,by omega,rfl,⟨uh HP3,OwnV.nil _ _,OwnV.nil _ _,OwnV.nil _ _,(fun b hb => by cases hb),(fun b hb => by cases hb),(fun b hb => by cases hb)⟩,⟨rfl,rfl,rfl,rfl,rfl,(fun j h => absurd h (Nat.not_lt_zero _)),(fun j h => absurd h (Nat.not_lt_zero _)),(fun j h => absurd h (Nat.not_lt_zero _)),fun j k h => absurd h (Nat.not_lt_zero _)⟩,uh HA3⟩
 case round =>
  clear HP3
  obtain ⟨i,V0,V1,V2,X0,X1,X2,ots,ens,hi,hg,rfl,hps,hpr,hbw⟩:=hrel
  rename World => wr
  have HG:=hide hg
  have HPS:=hide hps
  have HPR:=hide hpr
  have HBW:=hide hbw
  have hzr:=hps.blk.lt
  have HZR:=hide hzr
  clear hg hps hpr
  by_cases hlt : i < ks.length
  case neg =>
   have e : i = ks.length:=by omega
   subst e
   have HFIN : Hid (∃ pb v0 v1 v2 v3 ots ens,(Ending.returned (.pointer (some ⟨w2.heap.size,0,none⟩)) : Ending) = .returned (.pointer (some ⟨pb,0,none⟩)) ∧ SPlan wr pb ks v0 v1 v2 v3 ots ens ∧ Below w.heap.size w wr):=⟨_,_,_,_,_,_,_,rfl,splan_of (uh HPS).blk (uh HPS).o0 (uh HPS).o1 (uh HPS).o2 (uh HPR) hk200 ((uh HCV).stays RInt_kept hbw),(uh HB2).trans (hbw.mono (uh HB2).size)⟩
   clear hbw hzr
   go_wp2
   go_ret
   exact uh HFIN
  have hWr:=(uh HB2).trans (hbw.mono (uh HB2).size)
  have hmr:=(uh HM).stays RClass_kept hWr
  obtain ⟨_,_,hve,_,_,hx⟩:=hmr
  simp only [Value.slice.injEq] at hve
  obtain ⟨rfl,_,rfl⟩:=hve
  obtain ⟨mb,mo,cs,rfl,_,hmb,hcl,hmc,hRC⟩:=hx i hlt
  have hki : ks[i]? = some ks[i]:=List.getElem?_eq_getElem hlt
  generalize ks[i] = k at hRC hki
  obtain ⟨a1,a2,a3,a4,a5,a6,rfl,hnm,k1,k2,k3,k4,k5,k6⟩:=hRC
  have HK1:=hide k1
  have HK2:=hide k2
  have HK3:=hide k3
  have HK6:=hide k6
  obtain ⟨i1,n1,rfl⟩:=k1.shape
  obtain ⟨i2,n2,rfl⟩:=k2.shape
  obtain ⟨i3,n3,rfl⟩:=k3.shape
  obtain ⟨i4,n4,rfl⟩:=k4.shape
  obtain ⟨i5,n5,rfl⟩:=k5.shape
  obtain ⟨i6,n6,rfl⟩:=k6.shape
  have m0:=hmc 0 (by simp)
  have m1:=hmc 1 (by simp)
  have m2:=hmc 2 (by simp)
  have m3:=hmc 3 (by simp)
  have m4:=hmc 4 (by simp)
  have m5:=hmc 5 (by simp)
  have m6:=hmc 6 (by simp)
  simp only [Nat.add_zero,List.getElem_cons_zero,List.getElem_cons_succ] at m0 m1 m2 m3 m4 m5 m6
  obtain ⟨t1,t2,t3,t4,t5,t6⟩:=tree_of ks i k hki hp
  obtain ⟨hpr1,hpr2⟩:=plan_run (treeOf ks k) t3
  rw [t2] at hpr1 hpr2
  have HPR1:=hide hpr1
  have HPR2:=hide hpr2
  have HT5:=hide t5
  have HKI:=hide hki
  have HWR:=hide hWr
  have hiI : (i : Int) < (ks.length : Int):=by omega
  have hkn:=kinds_len k.body
  rw [hkn] at HPR2
  have hmk : ∀ w : World,(Instr.makeSlice 35 (.int .i64 (k.body.length : Int)) (.int .i64 (k.body.length : Int))).run Tryz.prog w = .ok (.slice (some ⟨w.heap.size,0,none⟩) k.body.length k.body.length) (w.alloc (zrow k.body.length)):=fun w => by
   have h9:=make_rows (P:=Tryz.prog) 35 3 (.int .i64 0) 1 8 Tryz.underlying35 (by kernel_rfl) k.body.length (by omega) (by omega) w
   rw [Nat.mul_one] at h9
   exact h9
  obtain ⟨wK,hwK⟩ : ∃ wK,wK = wr.alloc (.cells #[.string k.name,.slice i1 k.ins.length n1,.slice i2 k.outs.length n2,.slice i3 k.locs.length n3,.slice i4 k.mems.length n4,.slice i5 k.insts.length n5,.slice i6 k.body.length n6] 65):=⟨_,rfl⟩
  have hbK : Below wr.heap.size wr wK:=by rw [hwK]; exact (Below.refl _ _).alloc (Nat.le_refl _) _
  have hsK : wK.heap.size = wr.heap.size + 1:=by rw [hwK]; simp
  have xK : BlkAt wK wr.heap.size 65 #[.string k.name,.slice i1 k.ins.length n1,.slice i2 k.outs.length n2,.slice i3 k.locs.length n3,.slice i4 k.mems.length n4,.slice i5 k.insts.length n5,.slice i6 k.body.length n6]:=by rw [hwK]; exact blk_box _ _ _
  have d6:=xK.cell (i:=6) (v:=.slice i6 k.body.length n6) rfl
  have hz1 : Below wK.heap.size wK (wK.alloc (zrow k.body.length)):=(Below.refl _ _).alloc (Nat.le_refl _) _
  have hz2 : Below wK.heap.size wK ((wK.alloc (zrow k.body.length)).alloc (zrow k.body.length)):=hz1.alloc hz1.size _
  have hz3 : Below wK.heap.size wK (((wK.alloc (zrow k.body.length)).alloc (zrow k.body.length)).alloc (.cells #[] 3)):=hz2.alloc hz2.size _
  have d6a:=(hz1.cell (p:=⟨wr.heap.size,6,none⟩) xK.lt).trans d6
  have d6b:=(hz2.cell (p:=⟨wr.heap.size,6,none⟩) xK.lt).trans d6
  have d6c:=(hz3.cell (p:=⟨wr.heap.size,6,none⟩) xK.lt).trans d6
  clear hx hmc hcl k1 k2 k3 k4 k5 k6 t1 t2 t3 t4 t5 hpr1 hpr2 hki hWr hnm hkn hbw hzr
  have HSK:=hide hsK
  have HXK:=hide xK
  have HBK:=hide hbK
  have HZ3b:=hide hz3
  clear hsK xK hbK hz1 hz2 hz3
  obtain ⟨w4,hw4⟩ : ∃ w4,w4 = ((wK.alloc (zrow k.body.length)).alloc (zrow k.body.length)).alloc (.cells #[] 3):=⟨_,rfl⟩
  rw [← hw4] at HZ3b d6c
  have xO : BlkAt w4 (wr.heap.size + 1) 3 ((List.replicate k.body.length (0 : Int)).map (Value.int .i64)).toArray:=by
   have h1:=blk_box wK (madeCells #[.int .i64 0] k.body.length) 3
   rw [uh HSK] at h1
   rw [← given_zero,hw4]
   have h2 : BlkAt ((wK.alloc (zrow k.body.length)).alloc (zrow k.body.length)) (wr.heap.size + 1) 3 (madeCells #[.int .i64 0] k.body.length):=h1.below ((Below.refl (wr.heap.size + 2) _).alloc (by rw [World.size_alloc,uh HSK]; exact Nat.le_refl _) _) (by omega)
   exact h2.below ((Below.refl (wr.heap.size + 2) _).alloc (by rw [World.size_alloc,World.size_alloc,uh HSK]; omega) _) (by omega)
  have xE : BlkAt w4 (wr.heap.size + 1 + 1) 3 ((List.replicate k.body.length (0 : Int)).map (Value.int .i64)).toArray:=by
   have h1:=blk_box (wK.alloc (zrow k.body.length)) (madeCells #[.int .i64 0] k.body.length) 3
   rw [World.size_alloc,uh HSK] at h1
   rw [← given_zero,hw4]
   exact BlkAt.below (w:=(wK.alloc (zrow k.body.length)).alloc (zrow k.body.length)) h1 ((Below.refl (wr.heap.size + 3) _).alloc (by rw [World.size_alloc,World.size_alloc,uh HSK]; exact Nat.le_refl _) _) (by omega)
  have oP : OwnV elInt w4 (wr.heap.size + 1 + 1 + 1) (.slice (some ⟨wr.heap.size + 1 + 1 + 1,0,none⟩) 0 0) []:=by
   have h1:=OwnV.start (E:=elInt) ((wK.alloc (zrow k.body.length)).alloc (zrow k.body.length)) (wr.heap.size + 1 + 1 + 1) (by rw [World.size_alloc,World.size_alloc,uh HSK]; exact Nat.le_refl _)
   rw [World.size_alloc,World.size_alloc,uh HSK] at h1
   rw [hw4]
   exact h1
  have hs4 : w4.heap.size = wr.heap.size + 4:=by rw [hw4]; simp [uh HSK]
  have HXO:=hide xO
  have HXE:=hide xE
  have HOP:=hide oP
  have HS4:=hide hs4
  have hbr4 : Below wr.heap.size wr w4:=(uh HBK).trans ((uh HZ3b).mono (by rw [uh HSK]; omega))
  have HBR4:=hide hbr4
  clear xO xE oP hs4 hbr4
  go_wp2
  rw [← hwK,← hw4]
  clear hwK hw4 m0 m1 m2 m3 m4 m5 m6 d6 d6a d6b d6c hmk
  go_loopg [8,34] k.body.length (fun gm opv iv w5 => ∃ (q : Nat),q ≤ k.body.length ∧ gm = k.body.length - q ∧ iv = .int .i64 q ∧ OwnV elInt w5 (wr.heap.size + 1 + 1 + 1) opv (plTo (kindsOf k.body) k.body.length q).1 ∧ BlkAt w5 (wr.heap.size + 1) 3 ((plTo (kindsOf k.body) k.body.length q).2.1.map (Value.int .i64)).toArray ∧ BlkAt w5 (wr.heap.size + 1 + 1) 3 ((plTo (kindsOf k.body) k.body.length q).2.2.map (Value.int .i64)).toArray ∧ Below (wr.heap.size + 1) w4 w5)
  case atStart => exact ⟨0,Nat.zero_le _,by omega,rfl,uh HOP,uh HXO,uh HXE,Below.refl _ _⟩
  case round =>
   clear HXO HXE HOP
   obtain ⟨q,hq,hgq,rfl,hop,hxo,hxe,hb5⟩:=hrel
   rename World => w5
   have HGQ:=hide hgq
   have HOP:=hide hop
   have HXO:=hide hxo
   have HXE:=hide hxe
   have HB5:=hide hb5
   clear hgq
   by_cases hqn : q < k.body.length
   ·obtain ⟨sb,so,ov,cv,av,⟨bn,bc',hb'⟩,hSA⟩:=body_at (uh HK6) q hqn
    simp only [Value.slice.injEq] at hb'
    obtain ⟨rfl,rfl,rfl⟩:=hb'
    obtain ⟨oa,oc,hov⟩:=hSA.outs.shape
    obtain ⟨ca9,cc9,hcv⟩:=hSA.code.shape
    obtain ⟨aa,ac,hav⟩:=hSA.args.shape
    subst hov hcv hav
    have hcell : ∀ o,w5.cell? ⟨sb,o,none⟩ = wr.cell? ⟨sb,o,none⟩:=fun o => (hb5.cell (p:=⟨sb,o,none⟩) (by have:=hSA.lt; show sb < _; omega)).trans ((uh HBR4).cell (p:=⟨sb,o,none⟩) hSA.lt)
    have s0:=(hcell _).trans hSA.c0
    have s1:=(hcell _).trans hSA.c1
    have s2:=(hcell _).trans hSA.c2
    have s3:=(hcell _).trans hSA.c3
    have s4:=(hcell _).trans hSA.c4
    have s5:=(hcell _).trans hSA.c5
    have hkq : (kindsOf k.body)[q]'(by rw [kinds_len]; exact hqn) = k.body[q].kind:=kinds_at k.body q hqn
    have hsuc:=plTo_succ (kindsOf k.body) k.body.length q (by rw [kinds_len]; exact hqn)
    rw [hkq] at hsuc
    have hPR:=uh HPR1
    have hlen9:=hPR.len q (by rw [kinds_len]; omega)
    have hopn:=hPR.opn q (by rw [kinds_len]; omega)
    have hmany:=hPR.many q (by rw [kinds_len]; omega)
    have hne9:=hPR.ne q (by rw [kinds_len]; exact hqn)
    rw [hkq] at hne9
    rw [kinds_len] at hlen9 hopn hmany hne9
    have hqI : (q : Int) < (k.body.length : Int):=by omega
    have hA6 : Below w5.heap.size w5 (w5.alloc (.cells #[.int .i64 k.body[q].kind,.string k.body[q].name,.int .i64 k.body[q].at_,.slice oa k.body[q].outs.length oc,.slice ca9 k.body[q].code.length cc9,.slice aa k.body[q].args.length ac] 84)):=(Below.refl _ _).alloc (Nat.le_refl _) _
    have hz45 : wr.heap.size + 4 ≤ w5.heap.size:=by have:=hb5.size; have:=uh HS4; omega
    generalize k.body[q] = s at *
    generalize (plTo (kindsOf k.body) k.body.length q) = X at *
    obtain ⟨X',hXe⟩ : ∃ X',X' = plTo (kindsOf k.body) k.body.length (q + 1):=⟨_,rfl⟩
    rw [← hXe] at hsuc
    have HXE':=hide hXe
    clear hXe
    obtain ⟨kd,nm,atv,outs,code,args⟩:=s
    simp only at *
    obtain ⟨pa,pc,hpe⟩:=hop.slice
    subst hpe
    have hO6:=hop.below hA6
    have hxo6:=hxo.below hA6 hxo.lt
    have hxe6:=hxe.below hA6 hxe.lt
    have hb6:=hb5.trans (hA6.mono (by omega))
    by_cases h4 : kd = 4
    ·subst h4
     have hX':=hsuc.trans (show plS q 4 X = (X.1 ++ [(q : Int)],X.2.1,X.2.2) from rfl)
     subst hX'
     have hA7 : Below (w5.alloc (.cells #[.int .i64 4,.string nm,.int .i64 atv,.slice oa outs.length oc,.slice ca9 code.length cc9,.slice aa args.length ac] 84)).heap.size (w5.alloc (.cells #[.int .i64 4,.string nm,.int .i64 atv,.slice oa outs.length oc,.slice ca9 code.length cc9,.slice aa args.length ac] 84)) ((w5.alloc (.cells #[.int .i64 4,.string nm,.int .i64 atv,.slice oa outs.length oc,.slice ca9 code.length cc9,.slice aa args.length ac] 84)).alloc (.cells #[.int .i64 (q : Int)] 3)):=(Below.refl _ _).alloc (Nat.le_refl _) _
     have hO7:=hO6.below hA7
     have HO7:=hide hO7
     have HXO7:=hide (hxo6.below hA7 hxo6.lt)
     have HXE7:=hide (hxe6.below hA7 hxe6.lt)
     have HB7:=hide (hb6.trans (hA7.mono (by have:=hA6.size; omega)))
     have hbs : wr.heap.size + 1 + 1 + 1 ≤ ((w5.alloc (.cells #[.int .i64 4,.string nm,.int .i64 atv,.slice oa outs.length oc,.slice ca9 code.length cc9,.slice aa args.length ac] 84)).alloc (.cells #[.int .i64 (q : Int)] 3)).heap.size:=by simp; omega
     have hbd : (X.1.length + 1) * elInt.byt ≤ 140737488355328:=by show (_ + 1) * 8 ≤ _; omega
     clear hsuc hlen9 hopn hmany hne9 hO6 hxo6 hxe6 hb6 hA6 hA7 hO7 hop hxo hxe hb5 hcell hkq hSA
     go_wp2_with (at_builtin; go_must (refine wpList_append_oneN elInt _ rfl _ _ rfl (wr.heap.size + 1 + 1 + 1) _ X.1 rfl (uh HO7) (w5.heap.size + 1) (q : Int) rfl (fun j u hu => by rw [World.cell?_alloc_at _ _ _ _ (by simp)]; simpa [elInt] using hu) hbd hbs ?_))
     intro v' w8 ho8 hg8 hn8
     have hbb:=(uh HO7).block
     have HO8:=hide ho8
     have HXO8 : Hid (BlkAt w8 (wr.heap.size + 1) 3 (X.2.1.map (Value.int .i64)).toArray):=(grown_keep hg8 (uh HXO7).lt (fun e => by have:=hbb _ e; omega)).trans (uh HXO7)
     have HXE8 : Hid (BlkAt w8 (wr.heap.size + 1 + 1) 3 (X.2.2.map (Value.int .i64)).toArray):=(grown_keep hg8 (uh HXE7).lt (fun e => by have:=hbb _ e; omega)).trans (uh HXE7)
     have HB8:=hide ((uh HO7).grown (uh HB7) hg8 (by omega) (by omega))
     clear ho8 hg8 hn8 hbb
     go_wp2
     go_roundg (k.body.length - (q + 1))
     case measure => have:=uh HGQ; omega
     case rel => exact ⟨q + 1,by omega,rfl,by go_num,by rw [← uh HXE']; exact uh HO8,by rw [← uh HXE']; exact uh HXO8,by rw [← uh HXE']; exact uh HXE8,uh HB8⟩
    have c4 : (kd == 4) = false:=by rw [beq_eq_false_iff_ne]; exact h4
    by_cases h5 : kd = 5
    ·subst h5
     have hX':=hsuc.trans (show plS q 5 X = (X.1,X.2.1.set (X.1.getLastD 0).toNat q,X.2.2) from rfl)
     subst hX'
     have hXne:=hne9 (Or.inl rfl)
     obtain ⟨L',hL'⟩ : ∃ L',X.1.length = L' + 1:=⟨X.1.length - 1,by have:=List.length_pos_iff.2 hXne; omega⟩
     obtain ⟨g,gc9,hge⟩:=own_nonempty hO6 L' (by omega)
     simp only [Value.slice.injEq] at hge
     obtain ⟨rfl,_,rfl⟩:=hge
     have hlast : X.1.getD L' 0 = X.1.getLastD 0:=by
      rw [List.getLastD_eq_getLast?,List.getLast?_eq_getElem?,List.getD_eq_getElem?_getD,hL',Nat.add_sub_cancel]
     have hymem : X.1.getLastD 0 ∈ X.1:=by
      rw [← hlast,List.getD_eq_getElem?_getD,List.getElem?_eq_getElem (by omega),Option.getD_some]
      exact List.getElem_mem _
     obtain ⟨hy0,hy1⟩:=hopn _ hymem
     have kc:=hop.cellI rfl L' (by omega)
     rw [hlast] at kc
     obtain ⟨y,hy⟩:=Int.eq_ofNat_of_zero_le hy0
     rw [hy] at kc
     have HY:=hide hy
     obtain ⟨L9,hL9⟩ : ∃ L9,L9 = L' + 1:=⟨_,rfl⟩
     rw [← hL9] at hL'
     have hLw : IntKind.i64.wrap ((L9 : Int) - 1) = (L' : Int):=by rw [IntKind.wrap_i64]; omega
     have hLI : (L' : Int) < (L9 : Int):=by omega
     have hLw2 : wrap64 ((L9 : Int) - 1) = (L' : Int):=by unfold wrap64; omega
     have hyI : (y : Int) < (k.body.length : Int):=by omega
     have hgl:=hO6.block g rfl
     have hglt:=(hop.lt g rfl).2
     have yc:=hxo.cell (i:=y) (v:=.int .i64 (X.2.1.getD y 0)) (by
      rw [List.getD_eq_getElem?_getD,List.getElem?_eq_getElem (by rw [hlen9.1]; omega)]
      simp [hlen9.1])
     have yz:=hxo6.free y
     have yz5:=hxo.free y
     have yc6:=hxo6.cell (i:=y) (v:=.int .i64 (X.2.1.getD y 0)) (by
      rw [List.getD_eq_getElem?_getD,List.getElem?_eq_getElem (by rw [hlen9.1]; omega)]
      simp [hlen9.1])
     have hlt1 : wr.heap.size + 1 < w5.heap.size:=by omega
     rw [hL'] at hO6
     have HPO : Hid (OwnV elInt ((w5.alloc (.cells #[.int .i64 5,.string nm,.int .i64 atv,.slice oa outs.length oc,.slice ca9 code.length cc9,.slice aa args.length ac] 84)).setCell ⟨wr.heap.size + 1,y,none⟩ (.int .i64 (q : Int))) (wr.heap.size + 1 + 1 + 1) (.slice (some ⟨g,0,none⟩) L9 pc) X.1 ∧ BlkAt ((w5.alloc (.cells #[.int .i64 5,.string nm,.int .i64 atv,.slice oa outs.length oc,.slice ca9 code.length cc9,.slice aa args.length ac] 84)).setCell ⟨wr.heap.size + 1,y,none⟩ (.int .i64 (q : Int))) (wr.heap.size + 1) 3 ((X.2.1.set y (q : Int)).map (Value.int .i64)).toArray ∧ BlkAt ((w5.alloc (.cells #[.int .i64 5,.string nm,.int .i64 atv,.slice oa outs.length oc,.slice ca9 code.length cc9,.slice aa args.length ac] 84)).setCell ⟨wr.heap.size + 1,y,none⟩ (.int .i64 (q : Int))) (wr.heap.size + 1 + 1) 3 (X.2.2.map (Value.int .i64)).toArray ∧ Below (wr.heap.size + 1) w4 ((w5.alloc (.cells #[.int .i64 5,.string nm,.int .i64 atv,.slice oa outs.length oc,.slice ca9 code.length cc9,.slice aa args.length ac] 84)).setCell ⟨wr.heap.size + 1,y,none⟩ (.int .i64 (q : Int)))):=by
      refine hide ⟨?_,?_,?_,?_⟩
      ·have ho9 : OwnV elInt ((w5.alloc (.cells #[.int .i64 5,.string nm,.int .i64 atv,.slice oa outs.length oc,.slice ca9 code.length cc9,.slice aa args.length ac] 84)).setCell ⟨wr.heap.size + 1,y,none⟩ (.int .i64 (q : Int))) (wr.heap.size + 1 + 1 + 1) (.slice (some ⟨g,0,none⟩) X.1.length pc) X.1:=by
        rw [hL']
        exact hO6.ofBlock (fun b hb => Below.heap_setCell _ _ _ _ (fun e => by
         have e1 : b = wr.heap.size + 1:=e
         have e2 : b = g:=by cases hb; rfl
         omega))
       rw [← hL']; exact ho9
      ·exact set_row hxo6 y q
      ·exact (Below.heap_setCell _ _ _ _ (fun e => by have e1 : wr.heap.size + 1 + 1 = wr.heap.size + 1:=e; omega)).trans hxe6
      ·exact hb6.trans ((But.setCell _ (p:=⟨wr.heap.size + 1,y,none⟩) (List.mem_singleton.2 rfl) _).below _ (by have:=hA6.size; omega) (fun k9 hk9 => by rw [List.mem_singleton] at hk9; subst hk9; show _ ≤ wr.heap.size + 1; omega))
     clear hsuc hlen9 hopn hmany hne9 hO6 hxo6 hxe6 hb6 hA6 hlast hymem hy0 hy1 hy hXne hop hxo hxe hb5 hcell hkq hSA
     rw [World.setCell_alloc_past _ _ _ _ hlt1] at HPO
     rw [hL']
     clear hL' hL9
     go_wp2
     go_roundg (k.body.length - (q + 1))
     case measure => have:=uh HGQ; omega
     case rel => exact ⟨q + 1,by omega,rfl,by go_num,by rw [← uh HXE']; exact (uh HPO).1,by rw [← uh HXE',uh HY,Int.toNat_natCast]; exact (uh HPO).2.1,by rw [← uh HXE']; exact (uh HPO).2.2.1,(uh HPO).2.2.2⟩
    have c5 : (kd == 5) = false:=by rw [beq_eq_false_iff_ne]; exact h5
    by_cases h6 : kd = 6
    ·subst h6
     have hX':=hsuc.trans (show plS q 6 X = (X.1.dropLast,X.2.1,X.2.2.set (X.1.getLastD 0).toNat q) from rfl)
     subst hX'
     have hXne:=hne9 (Or.inr rfl)
     obtain ⟨L',hL'⟩ : ∃ L',X.1.length = L' + 1:=⟨X.1.length - 1,by have:=List.length_pos_iff.2 hXne; omega⟩
     obtain ⟨g,gc9,hge⟩:=own_nonempty hO6 L' (by omega)
     simp only [Value.slice.injEq] at hge
     obtain ⟨rfl,_,rfl⟩:=hge
     have hlast : X.1.getD L' 0 = X.1.getLastD 0:=by
      rw [List.getLastD_eq_getLast?,List.getLast?_eq_getElem?,List.getD_eq_getElem?_getD,hL',Nat.add_sub_cancel]
     have hymem : X.1.getLastD 0 ∈ X.1:=by
      rw [← hlast,List.getD_eq_getElem?_getD,List.getElem?_eq_getElem (by omega),Option.getD_some]
      exact List.getElem_mem _
     obtain ⟨hy0,hy1⟩:=hopn _ hymem
     have kc:=hop.cellI rfl L' (by omega)
     rw [hlast] at kc
     obtain ⟨y,hy⟩:=Int.eq_ofNat_of_zero_le hy0
     rw [hy] at kc
     have HY:=hide hy
     obtain ⟨L9,hL9⟩ : ∃ L9,L9 = L' + 1:=⟨_,rfl⟩
     rw [← hL9] at hL'
     have hLw : IntKind.i64.wrap ((L9 : Int) - 1) = (L' : Int):=by rw [IntKind.wrap_i64]; omega
     have hLI : (L' : Int) < (L9 : Int):=by omega
     have hLw2 : wrap64 ((L9 : Int) - 1) = (L' : Int):=by unfold wrap64; omega
     have hyI : (y : Int) < (k.body.length : Int):=by omega
     have hgl:=hO6.block g rfl
     have hglt:=(hop.lt g rfl).2
     have yc:=hxe.cell (i:=y) (v:=.int .i64 (X.2.2.getD y 0)) (by
      rw [List.getD_eq_getElem?_getD,List.getElem?_eq_getElem (by rw [hlen9.2]; omega)]
      simp [hlen9.2])
     have yz:=hxe6.free y
     have yz5:=hxe.free y
     have yc6:=hxe6.cell (i:=y) (v:=.int .i64 (X.2.2.getD y 0)) (by
      rw [List.getD_eq_getElem?_getD,List.getElem?_eq_getElem (by rw [hlen9.2]; omega)]
      simp [hlen9.2])
     have hlt1 : wr.heap.size + 1 + 1 < w5.heap.size:=by omega
     rw [hL'] at hO6
     have HPO : Hid (OwnV elInt ((w5.alloc (.cells #[.int .i64 6,.string nm,.int .i64 atv,.slice oa outs.length oc,.slice ca9 code.length cc9,.slice aa args.length ac] 84)).setCell ⟨wr.heap.size + 1 + 1,y,none⟩ (.int .i64 (q : Int))) (wr.heap.size + 1 + 1 + 1) (.slice (some ⟨g,0,none⟩) L' pc) X.1.dropLast ∧ BlkAt ((w5.alloc (.cells #[.int .i64 6,.string nm,.int .i64 atv,.slice oa outs.length oc,.slice ca9 code.length cc9,.slice aa args.length ac] 84)).setCell ⟨wr.heap.size + 1 + 1,y,none⟩ (.int .i64 (q : Int))) (wr.heap.size + 1) 3 (X.2.1.map (Value.int .i64)).toArray ∧ BlkAt ((w5.alloc (.cells #[.int .i64 6,.string nm,.int .i64 atv,.slice oa outs.length oc,.slice ca9 code.length cc9,.slice aa args.length ac] 84)).setCell ⟨wr.heap.size + 1 + 1,y,none⟩ (.int .i64 (q : Int))) (wr.heap.size + 1 + 1) 3 ((X.2.2.set y (q : Int)).map (Value.int .i64)).toArray ∧ Below (wr.heap.size + 1) w4 ((w5.alloc (.cells #[.int .i64 6,.string nm,.int .i64 atv,.slice oa outs.length oc,.slice ca9 code.length cc9,.slice aa args.length ac] 84)).setCell ⟨wr.heap.size + 1 + 1,y,none⟩ (.int .i64 (q : Int)))):=by
      refine hide ⟨?_,?_,?_,?_⟩
      ·have ho9 : OwnV elInt ((w5.alloc (.cells #[.int .i64 6,.string nm,.int .i64 atv,.slice oa outs.length oc,.slice ca9 code.length cc9,.slice aa args.length ac] 84)).setCell ⟨wr.heap.size + 1 + 1,y,none⟩ (.int .i64 (q : Int))) (wr.heap.size + 1 + 1 + 1) (.slice (some ⟨g,0,none⟩) X.1.length pc) X.1:=by
        rw [hL']
        exact hO6.ofBlock (fun b hb => Below.heap_setCell _ _ _ _ (fun e => by
         have e1 : b = wr.heap.size + 1 + 1:=e
         have e2 : b = g:=by cases hb; rfl
         omega))
       have h8:=ho9.cutF (m:=L') (by omega); rw [List.dropLast_eq_take,hL',hL9,Nat.add_sub_cancel]; exact h8
      ·exact (Below.heap_setCell _ _ _ _ (fun e => by have e1 : wr.heap.size + 1 = wr.heap.size + 1 + 1:=e; omega)).trans hxo6
      ·exact set_row hxe6 y q
      ·exact hb6.trans ((But.setCell _ (p:=⟨wr.heap.size + 1 + 1,y,none⟩) (List.mem_singleton.2 rfl) _).below _ (by have:=hA6.size; omega) (fun k9 hk9 => by rw [List.mem_singleton] at hk9; subst hk9; show _ ≤ wr.heap.size + 1 + 1; omega))
     have hpc0 : L9 ≤ pc:=by rcases hO6.shape with ⟨h8,_⟩ | ⟨_,_,h8,_,_,h9⟩ <;> simp only [Value.slice.injEq] at h8 <;> omega
     have hcutV : ∀ w',(Instr.slice 35 (.slice (some ⟨g,0,none⟩) L9 pc) none (some (.int .i64 (L' : Int))) none).run Tryz.prog w' = .ok (.slice (some ⟨g,0,none⟩) L' pc) w':=fun w' => by
      rw [cut_h (some ⟨g,0,none⟩) L9 pc L' (by omega) w',if_neg (by omega),Option.map_some,add_one_lit,Nat.sub_zero,Nat.sub_zero]
     clear hsuc hlen9 hopn hmany hne9 hO6 hxo6 hxe6 hb6 hA6 hlast hymem hy0 hy1 hy hXne hop hxo hxe hb5 hcell hkq hSA
     rw [World.setCell_alloc_past _ _ _ _ hlt1] at HPO
     rw [hL']
     clear hL' hpc0 hL9
     go_wp2
     go_roundg (k.body.length - (q + 1))
     case measure => have:=uh HGQ; omega
     case rel => exact ⟨q + 1,by omega,rfl,by go_num,by rw [← uh HXE']; exact (uh HPO).1,by rw [← uh HXE']; exact (uh HPO).2.1,by rw [← uh HXE',uh HY,Int.toNat_natCast]; exact (uh HPO).2.2.1,(uh HPO).2.2.2⟩
    have c6 : (kd == 6) = false:=by rw [beq_eq_false_iff_ne]; exact h6
    have hX' : X' = X:=by rw [hsuc]; unfold plS; rw [if_neg h4,if_neg h5,if_neg h6]
    subst hX'
    have HPO : Hid (OwnV elInt (w5.alloc (.cells #[.int .i64 kd,.string nm,.int .i64 atv,.slice oa outs.length oc,.slice ca9 code.length cc9,.slice aa args.length ac] 84)) (wr.heap.size + 1 + 1 + 1) (.slice pa X'.1.length pc) X'.1 ∧ BlkAt (w5.alloc (.cells #[.int .i64 kd,.string nm,.int .i64 atv,.slice oa outs.length oc,.slice ca9 code.length cc9,.slice aa args.length ac] 84)) (wr.heap.size + 1) 3 (X'.2.1.map (Value.int .i64)).toArray ∧ BlkAt (w5.alloc (.cells #[.int .i64 kd,.string nm,.int .i64 atv,.slice oa outs.length oc,.slice ca9 code.length cc9,.slice aa args.length ac] 84)) (wr.heap.size + 1 + 1) 3 (X'.2.2.map (Value.int .i64)).toArray ∧ Below (wr.heap.size + 1) w4 (w5.alloc (.cells #[.int .i64 kd,.string nm,.int .i64 atv,.slice oa outs.length oc,.slice ca9 code.length cc9,.slice aa args.length ac] 84))):=⟨hO6,hxo6,hxe6,hb6⟩
    clear hsuc hlen9 hopn hmany hne9 hO6 hxo6 hxe6 hb6 hA6 hop hxo hxe hb5 hcell hkq hSA h4 h5 h6
    go_wp2
    go_roundg (k.body.length - (q + 1))
    case measure => have:=uh HGQ; omega
    case rel => exact ⟨q + 1,by omega,rfl,by go_num,by rw [← uh HXE']; exact (uh HPO).1,by rw [← uh HXE']; exact (uh HPO).2.1,by rw [← uh HXE']; exact (uh HPO).2.2.1,(uh HPO).2.2.2⟩
   ·have hqe : q = k.body.length:=by omega
    subst hqe
    have hbw5 : Below wr.heap.size wr w5:=(uh HBR4).trans (hb5.mono (Nat.le_succ _))
    obtain ⟨hps5,hnx5⟩:=(uh HPS).later hbw5
    have xK5 : BlkAt w5 wr.heap.size 65 #[.string k.name,.slice i1 k.ins.length n1,.slice i2 k.outs.length n2,.slice i3 k.locs.length n3,.slice i4 k.mems.length n4,.slice i5 k.insts.length n5,.slice i6 k.body.length n6]:=((uh HXK).below (uh HZ3b) (uh HXK).lt).below hb5 (Nat.lt_succ_self _)
    have hPR:=uh HPR1
    have hlen9:=hPR.len k.body.length (by rw [kinds_len]; exact Nat.le_refl _)
    rw [kinds_len] at hlen9
    have hrng:=plTo_rng (kindsOf k.body) k.body.length k.body.length (by rw [kinds_len]; exact Nat.le_refl _)
    have hz5 : wr.heap.size + 4 ≤ w5.heap.size:=by have:=hb5.size; have:=uh HS4; omega
    have hzp:=(uh HPS).blk.lt
    have hPPn : ∀ b,wr.heap.size ≤ b → b < w5.heap.size → PP w2.heap.size w5 V0 V1 V2 b:=fun b h1 h2 => ⟨⟨by omega,h2⟩,fun e => by have:=((uh HPS).o0.lt b e).2; omega,fun e => by have:=((uh HPS).o1.lt b e).2; omega,fun e => by have:=((uh HPS).o2.lt b e).2; omega⟩
    have rO : SlAt 1 8 RInt 0 w5 (.slice (some ⟨wr.heap.size + 1,0,none⟩) k.body.length k.body.length) (plTo (kindsOf k.body) k.body.length k.body.length).2.1 ∧ ∀ b,(Value.slice (some ⟨wr.heap.size + 1,0,none⟩) k.body.length k.body.length).ownBlock = some b → PP w2.heap.size w5 V0 V1 V2 b:=by
     refine ⟨?_,fun b hb => by cases hb; exact hPPn (wr.heap.size + 1) (by omega) (by omega)⟩
     have h9:=row_list hxo (fun x hx => by have:=hrng.1 x hx; unfold I64; omega) (by rw [hlen9.1]; omega)
     rw [hlen9.1] at h9
     exact h9
    have rE : SlAt 1 8 RInt 0 w5 (.slice (some ⟨wr.heap.size + 1 + 1,0,none⟩) k.body.length k.body.length) (plTo (kindsOf k.body) k.body.length k.body.length).2.2 ∧ ∀ b,(Value.slice (some ⟨wr.heap.size + 1 + 1,0,none⟩) k.body.length k.body.length).ownBlock = some b → PP w2.heap.size w5 V0 V1 V2 b:=by
     refine ⟨?_,fun b hb => by cases hb; exact hPPn (wr.heap.size + 1 + 1) (by omega) (by omega)⟩
     have h9:=row_list hxe (fun x hx => by have:=hrng.2 x hx; unfold I64; omega) (by rw [hlen9.2]; omega)
     rw [hlen9.2] at h9
     exact h9
    have hpts:=uh HPR2
    generalize (plTo (kindsOf k.body) k.body.length k.body.length).2.1 = OT at *
    generalize (plTo (kindsOf k.body) k.body.length k.body.length).2.2 = EN at *
    have HR5:=hide (hnx5.rows (uh HPR))
    have HVR : Hid (∀ w',Below w5.heap.size w5 w' → Calls Tryz.prog 45 #[.agg #[.string k.name,.slice i1 k.ins.length n1,.slice i2 k.outs.length n2,.slice i3 k.locs.length n3,.slice i4 k.mems.length n4,.slice i5 k.insts.length n5,.slice i6 k.body.length n6]] w' (fun e w'' => ∃ v,e = .returned v ∧ SlAt 1 16 RStr w'.heap.size w'' v (varsOf k) ∧ Below w'.heap.size w' w'' ∧ ∀ b,v.ownBlock = some b → w'.heap.size ≤ b ∧ b < w''.heap.size)):=by
     intro w' h'
     have hbw':=hbw5.trans (h'.mono hbw5.size)
     exact l3Vars_new k _ _ _ _ _ _ w' ((uh HK1).stays RSlot_kept hbw') ((uh HK2).stays RSlot_kept hbw') ((uh HK3).stays RStr_kept hbw') (by have h9:=declB_len k (uh HT5); unfold varsOf at h9; simp only [List.length_append,List.length_map] at h9; omega)
    have HSC : Hid (∀ w' : World,w'.heap[wr.heap.size]? = w5.heap[wr.heap.size]? → (w'.cell? ⟨wr.heap.size,0,none⟩ = some (.string k.name) ∧ w'.cell? ⟨wr.heap.size,1,none⟩ = some (.slice i1 k.ins.length n1) ∧ w'.cell? ⟨wr.heap.size,2,none⟩ = some (.slice i2 k.outs.length n2) ∧ w'.cell? ⟨wr.heap.size,3,none⟩ = some (.slice i3 k.locs.length n3) ∧ w'.cell? ⟨wr.heap.size,4,none⟩ = some (.slice i4 k.mems.length n4) ∧ w'.cell? ⟨wr.heap.size,5,none⟩ = some (.slice i5 k.insts.length n5) ∧ w'.cell? ⟨wr.heap.size,6,none⟩ = some (.slice i6 k.body.length n6))):=by
     intro w' h'
     have h9 : BlkAt w' wr.heap.size 65 #[.string k.name,.slice i1 k.ins.length n1,.slice i2 k.outs.length n2,.slice i3 k.locs.length n3,.slice i4 k.mems.length n4,.slice i5 k.insts.length n5,.slice i6 k.body.length n6]:=h'.trans xK5
     exact ⟨h9.cell rfl,h9.cell rfl,h9.cell rfl,h9.cell rfl,h9.cell rfl,h9.cell rfl,h9.cell rfl⟩
    have HXL:=hide xK5.lt
    have d0:=hps5.blk.cell (i:=0) (v:=V0) rfl
    have HRO:=hide rO
    have HRE:=hide rE
    have HPTS:=hide hpts
    have HPS5:=hide hps5
    have HBW5:=hide hbw5
    have hV0r : (X0.length + 1) * 24 ≤ 140737488355328:=by have:=(uh HPR).l0; omega
    have HV0R:=hide hV0r
    have HNV0 : Hid (∀ b,V0.ownBlock = some b → b < wr.heap.size):=fun b e => ((uh HPS).o0.lt b e).2
    have HZP:=hide hzp
    obtain ⟨pa0,pl0,pc0,hV0⟩ : ∃ a l c,V0 = .slice a l c:=by obtain ⟨a,c,h⟩:=hps5.o0.slice; exact ⟨_,_,_,h⟩
    clear hop hxo hxe hb5 hbw5 hps5 hnx5 xK5 hPR hlen9 hrng hPPn rO rE hpts hV0r HPR1 HPR2 HXK
    go_wp2_with fail
    subst hV0
    obtain ⟨b0,b1,b2,b3,b4,b5,b6⟩:=uh HSC w5 rfl
    go_region_law (first | (go_simp; go_at_call 45; refine (uh HVR _ (Below.refl _ _).drew).mono ?_; rintro e w6 ⟨v6,rfl,hv6,hb6,ho6⟩; obtain ⟨s6a,s6c,rfl⟩:=hv6.shape; have hb56 : Below w5.heap.size w5 w6:=(Below.refl w5.heap.size w5).drew.trans hb6; have d6:=(hb56.cell (p:=⟨w2.heap.size,0,none⟩) (uh HPS5).blk.lt).trans d0; have hAB : Below w6.heap.size w6 (w6.alloc (.cells #[.slice s6a (varsOf k).length s6c] 62)):=(Below.refl _ _).alloc (Nat.le_refl _) _; have hb5B:=hb56.trans (hAB.mono hb56.size); have d6B:=(hb5B.cell (p:=⟨w2.heap.size,0,none⟩) (uh HPS5).blk.lt).trans d0; have HPSB:=hide ((uh HPS5).later hb5B); have HB5B:=hide hb5B; have HB56:=hide hb56; have HV6:=hide hv6; have HO6:=hide ho6; clear hb56 hAB hb5B hv6 hb6 ho6 b0 b1 b2 b3 b4 b5 b6) | (refine step_append_oneN elSS _ rfl _ _ rfl (w2.heap.size + 1) _ X0 rfl (uh HPSB).1.o0 w6.heap.size (s6a,(varsOf k).length,s6c) rfl (fun j u hu => by (show (World.alloc _ _).cell? _ = _); rw [World.cell?_alloc_at _ _ _ _ rfl]; simpa [elSS] using hu) (uh HV0R) (uh HPSB).1.blk.lt ?_; intro v7 w7 ho7 hg7 hn7; obtain ⟨a7,l7,p7,rfl⟩ : ∃ a l c,v7 = .slice a l c:=(by obtain ⟨a,c,h⟩:=ho7.slice; exact ⟨_,_,_,h⟩); have HP7:=hide ((uh HPSB).1.app0 ho7 hg7 hn7); have z7:=((uh HPSB).1.room0 hg7).free 0; have c7:=((uh HPSB).1.room0 hg7).cell (i:=0) (v:=.slice pa0 pl0 pc0) rfl; clear ho7 hg7 hn7 d6 d6B))
    all_goals
     have hN8:=(uh HPSB).2.trans (uh HP7).2
     have HBX8:=hN8.below
     have hRS : SlAt 1 16 RStr 0 (w6.alloc (.cells #[.slice s6a (varsOf k).length s6c] 62)) (.slice s6a (varsOf k).length s6c) (varsOf k) ∧ ∀ b,(Value.slice s6a (varsOf k).length s6c).ownBlock = some b → PP w2.heap.size (w6.alloc (.cells #[.slice s6a (varsOf k).length s6c] 62)) (.slice pa0 pl0 pc0) V1 V2 b:=by
      refine ⟨((uh HV6).lower RStr_lowers (Nat.zero_le _)).stays RStr_kept ((Below.refl w6.heap.size _).alloc (Nat.le_refl _) _),fun b hb => ?_⟩
      have hob:=uh HO6 b hb
      have hob1 : w5.heap.size ≤ b:=hob.1
      have hz9:=(uh HBW5).size
      have hzp9:=uh HZP
      refine ⟨⟨by omega,by rw [World.size_alloc]; omega⟩,fun e => by have:=uh HNV0 b e; omega,fun e => by have:=((uh HPS).o1.lt b e).2; omega,fun e => by have:=((uh HPS).o2.lt b e).2; omega⟩
     have HRS:=hide ((uh HP7).2.row RStr_any hRS)
     have HRO8:=hide (hN8.row RInt_any (uh HRO))
     have HRE8:=hide (hN8.row RInt_any (uh HRE))
     have HRW8:=hide (hN8.rows (uh HR5))
     have HPS8:=hide (uh HP7).1
     have HBB8:=hide (((uh HBW).trans ((uh HBW5).mono (Nat.le_of_lt (uh HZP)))).trans hN8.below)
     clear hN8 HBX8 hRS HP7 HPSB HB5B HB56 HV6 HO6 z7 c7 d0 HRO HRE HR5 HPS5 HSC HVR
     generalize w7.setCell ⟨w2.heap.size,0,none⟩ (.slice a7 l7 p7) = w8 at *
     have d1:=(uh HPS8).blk.cell (i:=1) (v:=V1) rfl
     have hA9 : Below w8.heap.size w8 (w8.alloc (.cells #[.slice (some ⟨wr.heap.size + 1,0,none⟩) k.body.length k.body.length] 35)):=(Below.refl _ _).alloc (Nat.le_refl _) _
     have HPS9:=hide ((uh HPS8).later hA9)
     have hbd1 : (X1.length + 1) * elSI.byt ≤ 140737488355328:=by have:=(uh HRW8).l1; show (_ + 1) * 24 ≤ _; omega
     clear hA9
     go_wp2_with (at_builtin; go_must (refine wpList_append_oneN elSI _ rfl _ _ rfl (w2.heap.size + 1) _ X1 rfl (uh HPS9).1.o1 w8.heap.size (some ⟨wr.heap.size + 1,0,none⟩,k.body.length,k.body.length) rfl (fun j u hu => by rw [World.cell?_alloc_at _ _ _ _ rfl]; simpa [elSI] using hu) hbd1 (uh HPS9).1.blk.lt ?_))
     intro v10 w10 ho10 hg10 hn10
     obtain ⟨a10,l10,p10,rfl⟩ : ∃ a l c,v10 = .slice a l c:=by obtain ⟨a,c,h⟩:=ho10.slice; exact ⟨_,_,_,h⟩
     have hP10:=(uh HPS9).1.app1 ho10 hg10 (fun b hb => (hn10 b hb).imp id (fun h => by simpa using h))
     have hN10:=(uh HPS9).2.trans hP10.2
     have z10:=((uh HPS9).1.room1 hg10).free 1
     have c10:=((uh HPS9).1.room1 hg10).cell (i:=1) (v:=V1) rfl
     have HN10:=hide hN10
     have HP10:=hide hP10.1
     have d2:=hP10.1.blk.cell (i:=2) (v:=V2) rfl
     have hA11 : Below (w10.setCell ⟨w2.heap.size,1,none⟩ (.slice a10 l10 p10)).heap.size (w10.setCell ⟨w2.heap.size,1,none⟩ (.slice a10 l10 p10)) ((w10.setCell ⟨w2.heap.size,1,none⟩ (.slice a10 l10 p10)).alloc (.cells #[.slice (some ⟨wr.heap.size + 1 + 1,0,none⟩) k.body.length k.body.length] 35)):=(Below.refl _ _).alloc (Nat.le_refl _) _
     have HPS11:=hide (hP10.1.later hA11)
     have hbd2 : (X2.length + 1) * elSI.byt ≤ 140737488355328:=by have:=(uh HRW8).l2; show (_ + 1) * 24 ≤ _; omega
     clear ho10 hg10 hn10 hP10 hN10 hA11 d1
     go_wp2_with (at_builtin; go_must (refine wpList_append_oneN elSI _ rfl _ _ rfl (w2.heap.size + 1) _ X2 rfl (uh HPS11).1.o2 w10.heap.size (some ⟨wr.heap.size + 1 + 1,0,none⟩,k.body.length,k.body.length) rfl (fun j u hu => by rw [World.cell?_alloc_at _ _ _ _ (by simp)]; simpa [elSI] using hu) hbd2 (uh HPS11).1.blk.lt ?_))
     intro v12 w12 ho12 hg12 hn12
     obtain ⟨a12,l12,p12,rfl⟩ : ∃ a l c,v12 = .slice a l c:=by obtain ⟨a,c,h⟩:=ho12.slice; exact ⟨_,_,_,h⟩
     have hP12:=(uh HPS11).1.app2 ho12 hg12 (fun b hb => (hn12 b hb).imp id (fun h => by simpa using h))
     have hN12:=((uh HN10).trans (uh HPS11).2).trans hP12.2
     have z12:=((uh HPS11).1.room2 hg12).free 2
     have c12:=((uh HPS11).1.room2 hg12).cell (i:=2) (v:=V2) rfl
     have HN12:=hide hN12
     have HP12:=hide hP12.1
     clear ho12 hg12 hn12 hP12 hN12 d2 z10 c10
     go_wp2
     go_roundg (ks.length - (i + 1))
     case measure => have:=uh HG; omega
     case rel => exact ⟨i + 1,_,_,_,_,_,_,_,_,by omega,rfl,by go_num,uh HP12,((uh HN12).rows (uh HRW8)).next (uh HKI) ((uh HN12).row RStr_any (uh HRS)) ((uh HN12).row RInt_any (uh HRO8)) ((uh HN12).row RInt_any (uh HRE8)) (uh HPTS),(uh HBB8).trans (uh HN12).below⟩
end Go.Proofs.YtjjldnkhadakcaaGreat
