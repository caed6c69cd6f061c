import Derived.Test.YtajabbnlbopcbaaGreatDoorLX2
namespace Go.Proofs.YtajabbnlbopcbaaGreatDoor
open Go.RowKit
set_option linter.unusedSimpArgs false
set_option linter.unusedVariables false
structure ElF (P : Program) (α : Type) where
 T : TypeId
 ST : TypeId
 sz : Nat
 byt : Nat
 f : α → List Value
 z : Value
 hT : P.underlying ST = some (.slice T)
 hi : (P.info? T).map (fun i => (i.zero,i.size,i.bytes)) = some (some z,sz,byt)
 hz : z.cells.size = sz
 hf : ∀ x,(f x).length = sz
 h1 : ∀ x u,u ∈ f x → u.oneCell' = true
 hsz : 0 < sz
 hby : 0 < byt
theorem flat_get {α β : Type} (f : α → List β) (sz : Nat) (hf : ∀ x,(f x).length = sz) : ∀ (xs : List α) (i : Nat) (hi : i < xs.length) (j : Nat),j < sz → (xs.flatMap f)[i * sz + j]? = (f xs[i])[j]?
 | x :: xs,0,_,j,hj => by
  rw [List.flatMap_cons,Nat.zero_mul,Nat.zero_add,List.getElem?_append_left (by rw [hf]; exact hj)]
  rfl
 | x :: xs,i + 1,hi,j,hj => by
  rw [List.flatMap_cons,List.getElem?_append_right (by rw [hf,Nat.add_mul]; omega),hf]
  have e : (i + 1) * sz + j - sz = i * sz + j:=by rw [Nat.add_mul]; omega
  rw [e,flat_get f sz hf xs i (by simpa using hi) j hj]
  rfl
theorem flat_len {α β : Type} (f : α → List β) (sz : Nat) (hf : ∀ x,(f x).length = sz) : ∀ (xs : List α),(xs.flatMap f).length = xs.length * sz
 | [] => by simp
 | x :: xs => by
  rw [List.flatMap_cons,List.length_append,hf,flat_len f sz hf xs,List.length_cons,Nat.add_mul]
  omega
section
variable {P : Program} {α : Type} (E : ElF P α)
def OwnV (w : World) (base : Nat) (v : Value) (xs : List α) : Prop:=w.ownsRow base E.T E.sz v xs.length (xs.flatMap E.f)
variable {E}
theorem OwnV.nil (w : World) (base : Nat) : OwnV E w base (.slice none 0 0) []:=⟨by simp,Or.inl ⟨rfl,rfl⟩⟩
theorem OwnV.start (w : World) (base : Nat) (hb : base ≤ w.heap.size) : OwnV E (w.alloc (.cells #[] E.T)) base (.slice (some ⟨w.heap.size,0,none⟩) 0 0) [] :=
 ⟨by simp,Or.inr ⟨_,_,#[],rfl,hb,Deep.blk_alloc_new _ _,Nat.le_refl _,Nat.zero_le _,by simp,by simp⟩⟩
theorem OwnV.below {w w' : World} {base : Nat} {v : Value} {xs : List α} (h : OwnV E w base v xs) (hb : Below w.heap.size w w') : OwnV E w' base v xs:=by
 obtain ⟨h1,h2⟩:=h
 refine ⟨h1,?_⟩
 rcases h2 with h2 | ⟨g,cap,cur,hv,hg,hh,r⟩
 ·exact Or.inl h2
 ·exact Or.inr ⟨g,cap,cur,hv,hg,(hb.block g (Array.getElem?_eq_some_iff.1 hh).1).trans hh,r⟩
theorem OwnV.shape {w : World} {base : Nat} {v : Value} {xs : List α} (h : OwnV E w base v xs) : (v = .slice none 0 0 ∧ xs = []) ∨ ∃ g cap,v = .slice (some ⟨g,0,none⟩) xs.length cap ∧ base ≤ g ∧ g < w.heap.size ∧ xs.length ≤ cap:=by
 obtain ⟨_,h2⟩:=h
 rcases h2 with ⟨rfl,h2⟩ | ⟨g,cap,cur,hv,hg,hh,hc,_⟩
 ·exact Or.inl ⟨rfl,List.eq_nil_of_length_eq_zero h2⟩
 ·exact Or.inr ⟨g,cap,hv,hg,(Array.getElem?_eq_some_iff.1 hh).1,hc⟩
theorem OwnV.slice {w : World} {base : Nat} {v : Value} {xs : List α} (h : OwnV E w base v xs) : ∃ a cap,v = .slice a xs.length cap:=by
 rcases h.shape with ⟨rfl,rfl⟩ | ⟨g,cap,rfl,_⟩
 ·exact ⟨_,_,rfl⟩
 ·exact ⟨_,_,rfl⟩
theorem OwnV.block {w : World} {base : Nat} {v : Value} {xs : List α} (h : OwnV E w base v xs) : ∀ g,v.ownBlock = some g → base ≤ g:=by
 rcases h.shape with ⟨rfl,rfl⟩ | ⟨g,cap,rfl,hb,_⟩
 ·intro g hg; cases hg
 ·intro g' hg; cases hg; exact hb
theorem OwnV.grown {w0 w w' : World} {B base : Nat} {v : Value} {xs : List α} (h : OwnV E w base v xs) (hb : Below B w0 w) (hg : w.grownBy w' v.ownBlock) (hB : B ≤ w.heap.size) (hr : B ≤ base) : Below B w0 w' :=
 hb.grown hg hB (fun k e => Nat.le_trans hr (h.block k e))
theorem OwnV.at {R : Nat → World → List Value → α → Prop} {w : World} {base : Nat} {v : Value} {xs : List α} (h : OwnV E w base v xs) (hR : ∀ x,x ∈ xs → R 0 w (E.f x) x) (hn : xs.length * E.byt ≤ 140737488355328) : SlAt E.sz E.byt R 0 w v xs:=by
 have hlen : xs.length ≤ 140737488355328:=Nat.le_trans (Nat.le_mul_of_pos_right _ E.hby) hn
 have h':=h
 rcases h.shape with ⟨rfl,rfl⟩ | ⟨g,cap,rfl,hb,hlt,hcap⟩
 ·exact ⟨none,0,rfl,⟨by simp [Len],Nat.le_refl _⟩,by simp [Len],fun i hi => absurd hi (Nat.not_lt_zero _)⟩
 ·refine ⟨_,cap,rfl,⟨hn,hcap⟩,hlen,fun i hi => ⟨g,0,E.f xs[i],rfl,Nat.zero_le _,hlt,E.hf _,fun j hj => ?_,hR _ (List.getElem_mem hi)⟩⟩
  have hjs : j < E.sz:=by rw [← E.hf xs[i]]; exact hj
  have:=World.ownsRow.cells h' (g:=g) rfl (i * E.sz + j) (E.f xs[i])[j] (by rw [flat_get E.f E.sz E.hf xs i hi j hjs]; simp [hj])
  rw [Addr.add_lit] at this
  rw [← this]
  congr 2
  omega
theorem wpList_append_oneF (E : ElF P α) (w : World) {ops : Array Oper} {rest : List Oper} {o : Oper} {a : Act} {Q : Exit → Act → World → Prop} (hgd : o.guard = none) (s x : Operand)
  (ho : o.op = .call { callee:=.builtin .append,args:=#[s,x],argTypes:=#[E.ST,E.ST] })
  (base : Nat) (v : Value) (xs : List α) (hs : a.eval s = v) (hown : OwnV E w base v xs)
  (eb : Nat) (y : α) (hx : a.eval x = .slice (some ⟨eb,0,none⟩) 1 1) (hy : ∀ j u,(E.f y)[j]? = some u → w.cell? ⟨eb,j,none⟩ = some u) (hb : (xs.length + 1) * E.byt ≤ 140737488355328) (hbase : base ≤ w.heap.size)
  (h : ∀ v' w',OwnV E w' base v' (xs ++ [y]) → w.grownBy w' v.ownBlock → wpList P ops Q rest (a.put o.dst v') w') : wpList P ops Q (o :: rest) a w:=by
 obtain ⟨i,hi,hz0,hz1,hz2⟩:=info_parts E.hi
 have hlen : xs.length + 1 ≤ 140737488355328:=Nat.le_trans (Nat.le_mul_of_pos_right _ E.hby) hb
 refine wpList_append_own w hgd s x E.ST ho base E.T i _ E.sz E.byt E.hT hi hz0 hz1 hz2 E.hz E.hsz v xs.length (xs.flatMap E.f) hs hown _ 1 1 (E.f y) hx (by rw [E.hf]; omega) (fun j u hu => ?_) (E.h1 y) (by simp [maxLen]; omega) hb hbase ?_
 ·rw [Addr.add_lit,Nat.zero_add]
  exact hy j u hu
 ·intro v' w' h1 h2 h3
  refine h v' w' ?_ h2
  unfold OwnV
  rw [List.length_append,List.flatMap_append]
  simpa using h1
theorem wpList_append_allF (E : ElF P α) {R : Nat → World → List Value → α → Prop} (hRf : ∀ w cs x,R 0 w cs x → cs = E.f x) (w : World) {ops : Array Oper} {rest : List Oper} {o : Oper} {a : Act} {Q : Exit → Act → World → Prop} (hgd : o.guard = none) (s x : Operand)
  (ho : o.op = .call { callee:=.builtin .append,args:=#[s,x],argTypes:=#[E.ST,E.ST] })
  (base g cap : Nat) (xs : List α) (hs : a.eval s = .slice (some ⟨g,0,none⟩) xs.length cap) (hown : OwnV E w base (.slice (some ⟨g,0,none⟩) xs.length cap) xs)
  (xv : Value) (hx : a.eval x = xv) (ys : List α) (hsl : SlAt E.sz E.byt R 0 w xv ys) (hb : (xs.length + ys.length) * E.byt ≤ 140737488355328) (hbase : base ≤ w.heap.size)
  (h : ∀ g' cap' w',OwnV E w' base (.slice (some ⟨g',0,none⟩) (xs.length + ys.length) cap') (xs ++ ys) → w.grownBy w' (some g) → wpList P ops Q rest (a.put o.dst (.slice (some ⟨g',0,none⟩) (xs.length + ys.length) cap')) w') : wpList P ops Q (o :: rest) a w:=by
 obtain ⟨i,hi,hz0,hz1,hz2⟩:=info_parts E.hi
 obtain ⟨ax,cx,rfl,_,hn,hel⟩:=hsl
 have hlen : xs.length + ys.length ≤ 140737488355328:=Nat.le_trans (Nat.le_mul_of_pos_right _ E.hby) hb
 have hcap : xs.length ≤ cap:=by
  rcases hown.shape with ⟨hh,_⟩ | ⟨g1,cap1,hv,_,_,h2⟩
  ·cases hh
  ·simp only [Value.slice.injEq] at hv
   obtain ⟨_,_,rfl⟩:=hv
   exact h2
 cases ax with
 | none =>
  have hy : ys = []:=by
   cases ys with
   | nil => rfl
   | cons y ys =>
    obtain ⟨b,o,cs,hbo,_⟩:=hel 0 (by simp)
    cases hbo
  subst hy
  refine wpList_plain hgd fun K hK => ?_
  have hrun:=run_append_room_src (P:=P) w E.ST E.ST o.type E.T i E.hT hi g 0 xs.length cap (.slice none 0 cx) 0 [] (Src.ofNil w E.hT cx) (by omega) (fun j hj => by simp at hj) (fun j hj => by simp at hj)
  unfold Oper.wp execOp
  simp only [ho,resolve,invoke,builtin,Sem.run_bind,Sem.run_pure,Result.andThen_ok,List.map_toArray,List.map_cons,List.map_nil,hs,hx,hrun,List.length_nil]
  refine hK _ _ ?_
  have hsc : w.setCells g (0 + xs.length * i.size) [] = w:=by simp [World.setCells]
  rw [hsc]
  have:=h g cap w (by simpa using hown) (World.grownBy.refl w _)
  simpa using this
 | some ad =>
  have hcellA : ∀ j u,(ys.flatMap E.f)[j]? = some u → w.cell? (ad.add j) = some u:=fun j u hu => by
   have hj : j < ys.length * E.sz:=by
    have:=(List.getElem?_eq_some_iff.1 hu).1
    rwa [flat_len E.f E.sz E.hf] at this
   have hsz:=E.hsz
   have hdiv : j / E.sz < ys.length:=Nat.div_lt_of_lt_mul (by rw [Nat.mul_comm]; exact hj)
   have hmod : j % E.sz < E.sz:=Nat.mod_lt _ hsz
   have hjj : j / E.sz * E.sz + j % E.sz = j:=by rw [Nat.mul_comm]; exact Nat.div_add_mod j E.sz
   obtain ⟨b,oo,cs,hbo,_,_,hl,hc,hR⟩:=hel (j / E.sz) hdiv
   simp only [Option.some.injEq] at hbo
   subst hbo
   have ecs:=hRf _ _ _ hR
   subst ecs
   have hg:=flat_get E.f E.sz E.hf ys (j / E.sz) hdiv (j % E.sz) hmod
   rw [hjj,hu] at hg
   obtain ⟨hjl,hju⟩:=List.getElem?_eq_some_iff.1 hg.symm
   have hcc:=hc (j % E.sz) hjl
   rw [hju] at hcc
   rw [Addr.add_lit,← hcc]
   congr 2
   omega
  refine wpList_append_own w hgd s x E.ST ho base E.T i _ E.sz E.byt E.hT hi hz0 hz1 hz2 E.hz E.hsz _ xs.length (xs.flatMap E.f) hs hown ad ys.length cx (ys.flatMap E.f) hx (flat_len E.f E.sz E.hf ys) hcellA (fun u hu => ?_) (by simp [maxLen]; omega) hb hbase ?_
  ·obtain ⟨y,_,hy⟩:=List.mem_flatMap.1 hu
   exact E.h1 y u hy
  ·intro v' w' h1 h2 h3
   obtain ⟨hl,hh⟩:=h1
   rcases hh with ⟨rfl,_⟩ | ⟨g',cap',cur,rfl,hr⟩
   ·have:=h3.1 rfl
    cases this.1
   ·refine h g' cap' w' ⟨?_,Or.inr ⟨g',cap',cur,by rw [List.length_append],?_⟩⟩ h2
    ·rw [List.length_append,List.flatMap_append]
     exact hl
    ·rw [List.length_append,List.flatMap_append]
     exact hr
end
def elCond : ElF Tryz.prog DCond where
 T:=86
 ST:=65
 sz:=2
 byt:=24
 f:=fun c => [.string c.name,.bool c.on]
 z:=.agg #[.string ByteArray.empty,.bool false]
 hT:=Tryz.underlying65
 hi:=by kernel_rfl
 hz:=rfl
 hf:=fun _ => rfl
 h1:=fun c u hu => by
  simp only [List.mem_cons,List.not_mem_nil,or_false] at hu
  rcases hu with rfl | rfl <;> rfl
 hsz:=by decide
 hby:=by decide
def elItem : ElF Tryz.prog DItem where
 T:=88
 ST:=55
 sz:=3
 byt:=32
 f:=fun t => [.int .i64 t.op,.int .i64 t.val,.string t.name]
 z:=.agg #[.int .i64 0,.int .i64 0,.string ByteArray.empty]
 hT:=Tryz.underlying55
 hi:=by kernel_rfl
 hz:=rfl
 hf:=fun _ => rfl
 h1:=fun c u hu => by
  simp only [List.mem_cons,List.not_mem_nil,or_false] at hu
  rcases hu with rfl | rfl | rfl <;> rfl
 hsz:=by decide
 hby:=by decide
def elInt : ElF Tryz.prog Int where
 T:=3
 ST:=64
 sz:=1
 byt:=8
 f:=fun t => [.int .i64 t]
 z:=.int .i64 0
 hT:=Tryz.underlying64
 hi:=by kernel_rfl
 hz:=rfl
 hf:=fun _ => rfl
 h1:=fun c u hu => by
  simp only [List.mem_cons,List.not_mem_nil,or_false] at hu
  rcases hu with rfl
  rfl
 hsz:=by decide
 hby:=by decide
def elStr : ElF Tryz.prog ByteArray where
 T:=9
 ST:=54
 sz:=1
 byt:=16
 f:=fun t => [.string t]
 z:=.string ByteArray.empty
 hT:=Tryz.underlying54
 hi:=by kernel_rfl
 hz:=rfl
 hf:=fun _ => rfl
 h1:=fun c u hu => by
  simp only [List.mem_cons,List.not_mem_nil,or_false] at hu
  rcases hu with rfl
  rfl
 hsz:=by decide
 hby:=by decide
end Go.Proofs.YtajabbnlbopcbaaGreatDoor
