import Derived.Test.YtfioeoihociilaaGreatOwn
import Derived.Test.YtfioeoihociilaaGreatWI3
import Derived.Test.YtfioeoihociilaaGreatItemsB
import Derived.Test.YtfioeoihociilaaGreatWI1
namespace Go.Proofs.YtfioeoihociilaaGreat
open Go.RowKit
set_option linter.unusedSimpArgs false
set_option linter.unusedVariables false
structure ElF (P : Program) (α : Type) where
 T : TypeId
 ST : TypeId
 sz : Nat
 byt : Nat
 f : α → List Value
 z : Value
 hT : P.underlying ST = some (.slice T)
 hi : (P.info? T).map (fun i => (i.zero,i.size,i.bytes)) = some (some z,sz,byt)
 hz : z.cells.size = sz
 hf : ∀ x,(f x).length = sz
 h1 : ∀ x u,u ∈ f x → u.oneCell' = true
 hsz : 0 < sz
 hby : 0 < byt
theorem flat_get {α β : Type} (f : α → List β) (sz : Nat) (hf : ∀ x,(f x).length = sz) : ∀ (xs : List α) (i : Nat) (hi : i < xs.length) (j : Nat),j < sz → (xs.flatMap f)[i * sz + j]? = (f xs[i])[j]?
 | x :: xs,0,_,j,hj => by
  rw [List.flatMap_cons,Nat.zero_mul,Nat.zero_add,List.getElem?_append_left (by rw [hf]; exact hj)]
  rfl
 | x :: xs,i + 1,hi,j,hj => by
  rw [List.flatMap_cons,List.getElem?_append_right (by rw [hf,Nat.add_mul]; omega),hf]
  have e : (i + 1) * sz + j - sz = i * sz + j:=by rw [Nat.add_mul]; omega
  rw [e,flat_get f sz hf xs i (by simpa using hi) j hj]
  rfl
theorem flat_len {α β : Type} (f : α → List β) (sz : Nat) (hf : ∀ x,(f x).length = sz) : ∀ (xs : List α),(xs.flatMap f).length = xs.length * sz
 | [] => by simp
 | x :: xs => by
  rw [List.flatMap_cons,List.length_append,hf,flat_len f sz hf xs,List.length_cons,Nat.add_mul]
  omega
section
variable {P : Program} {α : Type} (E : ElF P α)
def OwnV (w : World) (base : Nat) (v : Value) (xs : List α) : Prop:=w.ownsRow base E.T E.sz v xs.length (xs.flatMap E.f)
variable {E}
theorem OwnV.nil (w : World) (base : Nat) : OwnV E w base (.slice none 0 0) []:=⟨by simp,Or.inl ⟨rfl,rfl⟩⟩
theorem OwnV.start (w : World) (base : Nat) (hb : base ≤ w.heap.size) : OwnV E (w.alloc (.cells #[] E.T)) base (.slice (some ⟨w.heap.size,0,none⟩) 0 0) [] :=
 ⟨by simp,Or.inr ⟨_,_,#[],rfl,hb,Deep.blk_alloc_new _ _,Nat.le_refl _,Nat.zero_le _,by simp,by simp⟩⟩
theorem OwnV.below {w w' : World} {base : Nat} {v : Value} {xs : List α} (h : OwnV E w base v xs) (hb : Below w.heap.size w w') : OwnV E w' base v xs:=by
 obtain ⟨h1,h2⟩:=h
 refine ⟨h1,?_⟩
 rcases h2 with h2 | ⟨g,cap,cur,hv,hg,hh,r⟩
 ·exact Or.inl h2
 ·exact Or.inr ⟨g,cap,cur,hv,hg,(hb.block g (Array.getElem?_eq_some_iff.1 hh).1).trans hh,r⟩
theorem OwnV.shape {w : World} {base : Nat} {v : Value} {xs : List α} (h : OwnV E w base v xs) : (v = .slice none 0 0 ∧ xs = []) ∨ ∃ g cap,v = .slice (some ⟨g,0,none⟩) xs.length cap ∧ base ≤ g ∧ g < w.heap.size ∧ xs.length ≤ cap:=by
 obtain ⟨_,h2⟩:=h
 rcases h2 with ⟨rfl,h2⟩ | ⟨g,cap,cur,hv,hg,hh,hc,_⟩
 ·exact Or.inl ⟨rfl,List.eq_nil_of_length_eq_zero h2⟩
 ·exact Or.inr ⟨g,cap,hv,hg,(Array.getElem?_eq_some_iff.1 hh).1,hc⟩
theorem OwnV.slice {w : World} {base : Nat} {v : Value} {xs : List α} (h : OwnV E w base v xs) : ∃ a cap,v = .slice a xs.length cap:=by
 rcases h.shape with ⟨rfl,rfl⟩ | ⟨g,cap,rfl,_⟩
 ·exact ⟨_,_,rfl⟩
 ·exact ⟨_,_,rfl⟩
theorem OwnV.block {w : World} {base : Nat} {v : Value} {xs : List α} (h : OwnV E w base v xs) : ∀ g,v.ownBlock = some g → base ≤ g:=by
 rcases h.shape with ⟨rfl,rfl⟩ | ⟨g,cap,rfl,hb,_⟩
 ·intro g hg; cases hg
 ·intro g' hg; cases hg; exact hb
theorem OwnV.grown {w0 w w' : World} {B base : Nat} {v : Value} {xs : List α} (h : OwnV E w base v xs) (hb : Below B w0 w) (hg : w.grownBy w' v.ownBlock) (hB : B ≤ w.heap.size) (hr : B ≤ base) : Below B w0 w' :=
 hb.grown hg hB (fun k e => Nat.le_trans hr (h.block k e))
theorem OwnV.at {R : Nat → World → List Value → α → Prop} {w : World} {base : Nat} {v : Value} {xs : List α} (h : OwnV E w base v xs) (hR : ∀ x,x ∈ xs → R 0 w (E.f x) x) (hn : xs.length * E.byt ≤ 140737488355328) : SlAt E.sz E.byt R 0 w v xs:=by
 have hlen : xs.length ≤ 140737488355328:=Nat.le_trans (Nat.le_mul_of_pos_right _ E.hby) hn
 have h':=h
 rcases h.shape with ⟨rfl,rfl⟩ | ⟨g,cap,rfl,hb,hlt,hcap⟩
 ·exact ⟨none,0,rfl,⟨by simp [Len],Nat.le_refl _⟩,by simp [Len],fun i hi => absurd hi (Nat.not_lt_zero _)⟩
 ·refine ⟨_,cap,rfl,⟨hn,hcap⟩,hlen,fun i hi => ⟨g,0,E.f xs[i],rfl,Nat.zero_le _,hlt,E.hf _,fun j hj => ?_,hR _ (List.getElem_mem hi)⟩⟩
  have hjs : j < E.sz:=by rw [← E.hf xs[i]]; exact hj
  have:=World.ownsRow.cells h' (g:=g) rfl (i * E.sz + j) (E.f xs[i])[j] (by rw [flat_get E.f E.sz E.hf xs i hi j hjs]; simp [hj])
  rw [Addr.add_lit] at this
  rw [← this]
  congr 2
  omega
theorem wpList_append_oneF (E : ElF P α) (w : World) {ops : Array Oper} {rest : List Oper} {o : Oper} {a : Act} {Q : Exit → Act → World → Prop} (hgd : o.guard = none) (s x : Operand)
  (ho : o.op = .call { callee:=.builtin .append,args:=#[s,x],argTypes:=#[E.ST,E.ST] })
  (base : Nat) (v : Value) (xs : List α) (hs : a.eval s = v) (hown : OwnV E w base v xs)
  (eb : Nat) (y : α) (hx : a.eval x = .slice (some ⟨eb,0,none⟩) 1 1) (hy : ∀ j u,(E.f y)[j]? = some u → w.cell? ⟨eb,j,none⟩ = some u) (hb : (xs.length + 1) * E.byt ≤ 140737488355328) (hbase : base ≤ w.heap.size)
  (h : ∀ v' w',OwnV E w' base v' (xs ++ [y]) → w.grownBy w' v.ownBlock → wpList P ops Q rest (a.put o.dst v') w') : wpList P ops Q (o :: rest) a w:=by
 obtain ⟨i,hi,hz0,hz1,hz2⟩:=info_parts E.hi
 have hlen : xs.length + 1 ≤ 140737488355328:=Nat.le_trans (Nat.le_mul_of_pos_right _ E.hby) hb
 refine wpList_append_own w hgd s x E.ST ho base E.T i _ E.sz E.byt E.hT hi hz0 hz1 hz2 E.hz E.hsz v xs.length (xs.flatMap E.f) hs hown _ 1 1 (E.f y) hx (by rw [E.hf]; omega) (fun j u hu => ?_) (E.h1 y) (by simp [maxLen]; omega) hb hbase ?_
 ·rw [Addr.add_lit,Nat.zero_add]
  exact hy j u hu
 ·intro v' w' h1 h2 h3
  refine h v' w' ?_ h2
  unfold OwnV
  rw [List.length_append,List.flatMap_append]
  simpa using h1
theorem wpList_append_allF (E : ElF P α) {R : Nat → World → List Value → α → Prop} (hRf : ∀ w cs x,R 0 w cs x → cs = E.f x) (w : World) {ops : Array Oper} {rest : List Oper} {o : Oper} {a : Act} {Q : Exit → Act → World → Prop} (hgd : o.guard = none) (s x : Operand)
  (ho : o.op = .call { callee:=.builtin .append,args:=#[s,x],argTypes:=#[E.ST,E.ST] })
  (base g cap : Nat) (xs : List α) (hs : a.eval s = .slice (some ⟨g,0,none⟩) xs.length cap) (hown : OwnV E w base (.slice (some ⟨g,0,none⟩) xs.length cap) xs)
  (xv : Value) (hx : a.eval x = xv) (ys : List α) (hsl : SlAt E.sz E.byt R 0 w xv ys) (hb : (xs.length + ys.length) * E.byt ≤ 140737488355328) (hbase : base ≤ w.heap.size)
  (h : ∀ g' cap' w',OwnV E w' base (.slice (some ⟨g',0,none⟩) (xs.length + ys.length) cap') (xs ++ ys) → w.grownBy w' (some g) → wpList P ops Q rest (a.put o.dst (.slice (some ⟨g',0,none⟩) (xs.length + ys.length) cap')) w') : wpList P ops Q (o :: rest) a w:=by
 obtain ⟨i,hi,hz0,hz1,hz2⟩:=info_parts E.hi
 obtain ⟨ax,cx,rfl,_,hn,hel⟩:=hsl
 have hlen : xs.length + ys.length ≤ 140737488355328:=Nat.le_trans (Nat.le_mul_of_pos_right _ E.hby) hb
 have hcap : xs.length ≤ cap:=by
  rcases hown.shape with ⟨hh,_⟩ | ⟨g1,cap1,hv,_,_,h2⟩
  ·cases hh
  ·simp only [Value.slice.injEq] at hv
   obtain ⟨_,_,rfl⟩:=hv
   exact h2
 cases ax with
 | none =>
  have hy : ys = []:=by
   cases ys with
   | nil => rfl
   | cons y ys =>
    obtain ⟨b,o,cs,hbo,_⟩:=hel 0 (by simp)
    cases hbo
  subst hy
  refine wpList_plain hgd fun K hK => ?_
  have hrun:=run_append_room_src (P:=P) w E.ST E.ST o.type E.T i E.hT hi g 0 xs.length cap (.slice none 0 cx) 0 [] (Src.ofNil w E.hT cx) (by omega) (fun j hj => by simp at hj) (fun j hj => by simp at hj)
  unfold Oper.wp execOp
  simp only [ho,resolve,invoke,builtin,Sem.run_bind,Sem.run_pure,Result.andThen_ok,List.map_toArray,List.map_cons,List.map_nil,hs,hx,hrun,List.length_nil]
  refine hK _ _ ?_
  have hsc : w.setCells g (0 + xs.length * i.size) [] = w:=by simp [World.setCells]
  rw [hsc]
  have:=h g cap w (by simpa using hown) (World.grownBy.refl w _)
  simpa using this
 | some ad =>
  have hcellA : ∀ j u,(ys.flatMap E.f)[j]? = some u → w.cell? (ad.add j) = some u:=fun j u hu => by
   have hj : j < ys.length * E.sz:=by
    have:=(List.getElem?_eq_some_iff.1 hu).1
    rwa [flat_len E.f E.sz E.hf] at this
   have hsz:=E.hsz
   have hdiv : j / E.sz < ys.length:=Nat.div_lt_of_lt_mul (by rw [Nat.mul_comm]; exact hj)
   have hmod : j % E.sz < E.sz:=Nat.mod_lt _ hsz
   have hjj : j / E.sz * E.sz + j % E.sz = j:=by rw [Nat.mul_comm]; exact Nat.div_add_mod j E.sz
   obtain ⟨b,oo,cs,hbo,_,_,hl,hc,hR⟩:=hel (j / E.sz) hdiv
   simp only [Option.some.injEq] at hbo
   subst hbo
   have ecs:=hRf _ _ _ hR
   subst ecs
   have hg:=flat_get E.f E.sz E.hf ys (j / E.sz) hdiv (j % E.sz) hmod
   rw [hjj,hu] at hg
   obtain ⟨hjl,hju⟩:=List.getElem?_eq_some_iff.1 hg.symm
   have hcc:=hc (j % E.sz) hjl
   rw [hju] at hcc
   rw [Addr.add_lit,← hcc]
   congr 2
   omega
  refine wpList_append_own w hgd s x E.ST ho base E.T i _ E.sz E.byt E.hT hi hz0 hz1 hz2 E.hz E.hsz _ xs.length (xs.flatMap E.f) hs hown ad ys.length cx (ys.flatMap E.f) hx (flat_len E.f E.sz E.hf ys) hcellA (fun u hu => ?_) (by simp [maxLen]; omega) hb hbase ?_
  ·obtain ⟨y,_,hy⟩:=List.mem_flatMap.1 hu
   exact E.h1 y u hy
  ·intro v' w' h1 h2 h3
   obtain ⟨hl,hh⟩:=h1
   rcases hh with ⟨rfl,_⟩ | ⟨g',cap',cur,rfl,hr⟩
   ·have:=h3.1 rfl
    cases this.1
   ·refine h g' cap' w' ⟨?_,Or.inr ⟨g',cap',cur,by rw [List.length_append],?_⟩⟩ h2
    ·rw [List.length_append,List.flatMap_append]
     exact hl
    ·rw [List.length_append,List.flatMap_append]
     exact hr
end
def elCond : ElF Tryz.prog DCond where
 T:=65
 ST:=61
 sz:=2
 byt:=24
 f:=fun c => [.string c.name,.bool c.on]
 z:=.agg #[.string ByteArray.empty,.bool false]
 hT:=Tryz.underlying61
 hi:=by kernel_rfl
 hz:=rfl
 hf:=fun _ => rfl
 h1:=fun c u hu => by
  simp only [List.mem_cons,List.not_mem_nil,or_false] at hu
  rcases hu with rfl | rfl <;> rfl
 hsz:=by decide
 hby:=by decide
def elInt : ElF Tryz.prog Int where
 T:=3
 ST:=80
 sz:=1
 byt:=8
 f:=fun t => [.int .i64 t]
 z:=.int .i64 0
 hT:=Tryz.underlying80
 hi:=by kernel_rfl
 hz:=rfl
 hf:=fun _ => rfl
 h1:=fun c u hu => by
  simp only [List.mem_cons,List.not_mem_nil,or_false] at hu
  rcases hu with rfl
  rfl
 hsz:=by decide
 hby:=by decide
def elStr : ElF Tryz.prog ByteArray where
 T:=9
 ST:=66
 sz:=1
 byt:=16
 f:=fun t => [.string t]
 z:=.string ByteArray.empty
 hT:=Tryz.underlying66
 hi:=by kernel_rfl
 hz:=rfl
 hf:=fun _ => rfl
 h1:=fun c u hu => by
  simp only [List.mem_cons,List.not_mem_nil,or_false] at hu
  rcases hu with rfl
  rfl
 hsz:=by decide
 hby:=by decide
end Go.Proofs.YtfioeoihociilaaGreat
namespace Go.Proofs.YtfioeoihociilaaGreat
open Go.RowKit
set_option linter.unusedSimpArgs false
set_option linter.unusedVariables false
theorem cond_len {w : World} {v : Value} {xs : List DCond} (h : SlAt 2 24 RCond 0 w v xs) : ∀ x,x ∈ xs → Len x.name.size:=by
 obtain ⟨a,cap,rfl,_,_,hx⟩:=h
 intro x hm
 obtain ⟨i,hi,rfl⟩:=List.getElem_of_mem hm
 obtain ⟨_,_,_,_,_,_,_,_,hR⟩:=hx i hi
 exact hR.2
theorem RCond_f : ∀ (w : World) (cs : List Value) (x : DCond),RCond 0 w cs x → cs = elCond.f x:=fun _ _ _ h => h.1
set_option maxHeartbeats 1000000 in
theorem l1Longer_ok (ks : List DCond) (u : Value) (nm : ByteArray) (on : Bool) (w : World) (hu : SlAt 2 24 RCond 0 w u ks) (hn : Len nm.size) (hl : ks.length ≤ 1000) :
  Calls Tryz.prog 78 #[u,.string nm,.bool on] w fun e w' => ∃ v,e = .returned v ∧ SlAt 2 24 RCond 0 w' v (ks ++ [⟨nm,on⟩]) ∧ Below w.heap.size w w':=by
 have HLN:=hide (cond_len hu)
 have HN:=hide hn
 have P0 : Below w.heap.size w (w.alloc (.cells #[] 65)):=(Below.refl _ _).alloc (Nat.le_refl _) _
 have HP0:=hide P0
 have HU:=hide (hu.stays RCond_kept P0)
 have HO:=hide (OwnV.start (E:=elCond) w w.heap.size (Nat.le_refl _))
 obtain ⟨a,cap,rfl⟩:=hu.shape
 clear hu P0 hn
 go_enter Tryz.func78,Tryz.ntmps78
 go_wp2_with (at_builtin; go_must (refine wpList_append_allF elCond RCond_f _ rfl _ _ rfl w.heap.size w.heap.size 0 [] rfl (uh HO) _ rfl ks (uh HU) (by simp [elCond]; omega) (by simp) ?_))
 intro g1 cap1 w1 hown1 hgr1
 have hb1:=(uh HO).grown (uh HP0) hgr1 (by simp) (Nat.le_refl _)
 have hs1:=hb1.size
 have HB1:=hide hb1
 have hal : Below w1.heap.size w1 (w1.alloc (.cells #[.string nm,.bool on] 65)):=(Below.refl _ _).alloc (Nat.le_refl _) _
 have HO1:=hide (hown1.below hal)
 have HB2 : Hid (Below w.heap.size w (w1.alloc (.cells #[.string nm,.bool on] 65))):=hb1.trans (hal.mono hs1)
 clear hown1 hgr1 hb1 hal
 try simp only [List.length_nil,List.nil_append,Nat.zero_add] at HO1
 try simp only [List.length_nil,List.nil_append,Nat.zero_add]
 go_wp2_with (at_builtin; go_must (refine wpList_append_oneF elCond _ rfl _ _ rfl w.heap.size _ ks rfl (uh HO1) w1.heap.size ⟨nm,on⟩ rfl (fun j u hu => by rw [World.cell?_alloc_at _ _ _ _ rfl]; simpa [elCond] using hu) (by simp [elCond]; omega) (by simp; omega) ?_))
 intro v2 w2 hown2 hgr2
 have hb2:=(uh HO1).grown (uh HB2) hgr2 (by simp; omega) (Nat.le_refl _)
 have HD:=hide (hown2.at (R:=RCond) (fun x hx => ⟨rfl,by
  rcases List.mem_append.1 hx with hx | hx
  ·exact uh HLN x hx
  ·simp only [List.mem_singleton] at hx
   subst hx
   exact uh HN⟩) (by simp [elCond]; omega))
 have HB3:=hide hb2
 clear hown2 hgr2 hb2
 go_wp2
 go_ret
 exact ⟨_,rfl,uh HD,uh HB3⟩
def defN (es : List DEq) (x : ByteArray) : Nat:=es.findIdx fun e => inB e.lhs x
def defI (es : List DEq) (x : ByteArray) : Int:=if defN es x < es.length then (defN es x : Int) else -1
theorem def_hit (es : List DEq) (x : ByteArray) (k : Nat) (h : k < es.length) (hb : ∀ j (hj : j < es.length),j < k → inB es[j].lhs x = false) (he : inB es[k].lhs x = true) : defI es x = k:=by
 have e : defN es x = k:=by
  unfold defN
  rw [List.findIdx_eq h]
  exact ⟨he,fun j hj => by simpa using hb j (by omega) hj⟩
 unfold defI
 rw [e]
 simp [h]
theorem def_miss (es : List DEq) (x : ByteArray) (hb : ∀ j (hj : j < es.length),inB es[j].lhs x = false) : defI es x = -1:=by
 have e : defN es x = es.length:=by
  unfold defN
  rw [List.findIdx_eq_length]
  intro v hv
  obtain ⟨j,hj,rfl⟩:=List.getElem_of_mem hv
  exact hb j hj
 unfold defI
 rw [e]
 simp
set_option maxHeartbeats 1000000 in
theorem l2Defines_ok (es : List DEq) (s : ByteArray) (a1 a2 a3 : Option Addr) (n1 n2 n3 c1 c2 c3 : Nat) (v : Value) (nm : ByteArray) (w : World) (h4 : SlAt 4 88 REq 0 w v es) :
  Calls Tryz.prog 53 #[.agg #[.string s,.slice a1 n1 c1,.slice a2 n2 c2,.slice a3 n3 c3,v],.string nm] w (Ans (.int .i64 (defI es nm)) w):=by
 have P0 : Below w.heap.size w (w.alloc (.cells #[.string s,.slice a1 n1 c1,.slice a2 n2 c2,.slice a3 n3 c3,v] 45)):=(Below.refl _ _).alloc (Nat.le_refl _) _
 have HP0:=hide P0
 clear P0
 obtain ⟨a,cap,rfl,_,hn,hx⟩:=h4
 unfold Len at hn
 have HX:=hide hx
 clear hx
 go_enter Tryz.func53,Tryz.ntmps53
 go_wp2
 go_loopg [10] es.length (fun g i wr => ∃ (k : Nat),k ≤ es.length ∧ g = es.length - k ∧ i = .int .i64 k ∧ Below w.heap.size w wr ∧ ∀ j (hj : j < es.length),j < k → inB es[j].lhs nm = false)
 case atStart => exact ⟨0,Nat.zero_le _,by omega,rfl,uh HP0,fun j _ h => absurd h (Nat.not_lt_zero _)⟩
 case round =>
  obtain ⟨k,hk,hg,rfl,hbl,hno⟩:=hrel
  rename World => wN
  have HG:=hide hg
  have HNO:=hide hno
  clear hg hno
  by_cases hlt : k < es.length
  ·obtain ⟨b,o,cs,hbo,_,hb,hcs,hc0,hR⟩:=uh HX k hlt
   subst hbo
   have hc : ∀ j (hj : j < cs.length),wN.cell? ⟨b,o + k * 4 + j,none⟩ = some cs[j]:=fun j hj => by rw [hbl.cell (p:=⟨b,_,none⟩) hb]; exact hc0 j hj
   obtain ⟨l,c,v,rfl,hcz,hl1,hc1,hv1⟩:=hR
   have q0:=hc 0 (by simp)
   have q1:=hc 1 (by simp)
   have q2:=hc 2 (by simp)
   have q3:=hc 3 (by simp)
   simp only [Nat.mul_one,Nat.add_zero,List.getElem_cons_zero,List.getElem_cons_succ] at q0 q1 q2 q3
   have hal : Below w.heap.size w (wN.alloc (.cells #[l,c,.string es[k].call,v] 70)):=hbl.alloc hbl.size _
   have HAL:=hide hal
   have HC:=hide (l1In_ok es[k].lhs l nm _ (hl1.stays RStr_kept hal))
   obtain ⟨la,lc,rfl⟩:=hl1.shape
   obtain ⟨ca,cc,rfl⟩:=hc1.shape
   obtain ⟨xa,xc,rfl⟩:=hv1.shape
   clear hc hc0 hcs hcz hl1 hc1 hv1 hal
   have HI : Hid (∀ r,inB es[k].lhs nm = r → (r = true → defI es nm = k) ∧ (r = false → ∀ j (hj : j < es.length),j < k + 1 → inB es[j].lhs nm = false)):=fun r hr =>
    ⟨fun h => def_hit es nm k hlt (uh HNO) (hr.trans h),fun h j hj hjk => by
     by_cases e : j = k
     ·subst e; exact hr.trans h
     ·exact uh HNO j hj (by omega)⟩
   have HI:=hide (uh HI _ rfl)
   generalize inB es[k].lhs nm = r at *
   generalize es[k].lhs.length = m1 at *
   generalize es[k].code.length = m2 at *
   generalize es[k].args.length = m3 at *
   generalize es[k].call = cl at *
   cases r
   ·have HN2:=hide ((uh HI).2 rfl)
    clear HI
    go_wp2_with fail
    refine (uh HC).mono ?_
    rintro e w1 ⟨rfl,h9⟩
    obtain rfl:=h9.symm
    go_wp2
    go_roundg (es.length - (k + 1))
    case measure => have:=uh HG; omega
    case rel => exact ⟨k + 1,by omega,rfl,by go_num,uh HAL,uh HN2⟩
   ·have HN2:=hide ((uh HI).1 rfl)
    clear HI
    go_wp2_with fail
    refine (uh HC).mono ?_
    rintro e w1 ⟨rfl,h9⟩
    obtain rfl:=h9.symm
    go_wp2
    go_ret
    exact ⟨by rw [uh HN2]; rfl,uh HAL⟩
  ·have e : k = es.length:=by omega
   subst e
   have HM:=hide (def_miss es nm (fun j hj => uh HNO j hj hj))
   go_wp2
   go_ret
   exact ⟨by rw [uh HM]; rfl,hbl⟩
set_option maxHeartbeats 400000 in
theorem l1Begin_at (ys : List DItem) (n0 : Nat) (hn0 : n0 ≤ ys.length) (v : Value) (w : World) (hv : SlAt 3 32 RItem 0 w v ys) :
  Calls Tryz.prog 75 #[v,.int .i64 n0] w fun e w' => e = .returned (.int .i64 (bgI (ys.take n0))) ∧ w' = w:=by
 obtain ⟨a,cap,rfl,_,hn,hx⟩:=hv
 unfold Len at hn
 have hxl : (ys.take n0).length = n0:=by rw [List.length_take]; omega
 obtain ⟨xs,hxs⟩ : ∃ xs,xs = ys.take n0:=⟨_,rfl⟩
 rw [← hxs] at hxl ⊢
 have HX : Hid (∀ i (h : i < xs.length),∃ b o cs,a = some ⟨b,o,none⟩ ∧ 0 ≤ b ∧ b < w.heap.size ∧ cs.length = 3 ∧ (∀ j (hj : j < cs.length),w.cell? ⟨b,o + i * 3 + j,none⟩ = some cs[j]) ∧ RItem 0 w cs xs[i]):=by
  intro i hi
  obtain ⟨b,o,cs,h1,h2,h3,h4,h5,h6⟩:=hx i (by omega)
  refine ⟨b,o,cs,h1,h2,h3,h4,h5,?_⟩
  have : xs[i] = ys[i]'(by omega):=by subst hxs; simp
  rw [this]
  exact h6
 clear hx
 subst hxl
 clear hxs
 go_enter Tryz.func75,Tryz.ntmps75
 go_wp2
 go_loopg [5,6] (xs.length) (fun g l i wr => ∃ (m n : Nat),m ≤ xs.length ∧ g = m ∧ l = .int .i64 m ∧ i = .int .i64 n ∧ n + 3 * m ≤ 3 * xs.length + 1 ∧ bk xs.reverse 1 = bk (xs.take m).reverse n ∧ wr = w)
 case atStart => exact ⟨xs.length,1,Nat.le_refl _,rfl,rfl,rfl,by omega,by rw [List.take_length],rfl⟩
 case round =>
  obtain ⟨m,n,hm,hg,rfl,rfl,hn3,hbk,rfl⟩:=hrel
  have HG:=hide hg
  have HB:=hide hbk
  clear hg hbk
  match n with
  | 0 =>
   have F : bgI xs = m:=by
    unfold bgI
    rw [uh HB,bk_zero]
    simp
    omega
   have HF:=hide F
   clear F
   go_wp2
   go_ret
   exact ⟨ret_int (uh HF).symm,rfl⟩
  | n + 1 =>
   match m with
   | 0 =>
    have F : bgI xs = -1:=by
     unfold bgI
     rw [uh HB]
     rfl
    have HF:=hide F
    clear F
    go_wp2
    go_ret
    exact ⟨ret_int (uh HF).symm,rfl⟩
   | m + 1 =>
    have hlt : m < xs.length:=by omega
    obtain ⟨b,o,cs,rfl,_,hb,hcs,hc,hR⟩:=uh HX m hlt
    obtain ⟨rfl,hsn,ho,hvl⟩:=hR
    have c0:=hc 0 (by simp)
    simp only [Nat.mul_one,Nat.add_zero,List.getElem_cons_zero,List.getElem_cons_succ] at c0
    have hbd:=arI_bd xs[m].op
    have HAR:=hide (fun w => l1Arity_ok xs[m].op w ho)
    have hd:=uh HB
    rw [take_rev xs m hlt] at hd
    simp only [bk] at hd
    by_cases hneg : arI xs[m].op < 0
    ·have F : bgI xs = -1:=by
      unfold bgI
      rw [hd,if_pos hneg]
     have HF:=hide F
     clear F hd hc hcs ho hvl hsn
     generalize xs[m].op = op at *
     generalize arI op = ar at *
     go_wp2_with fail
     refine (uh HAR _).mono ?_
     rintro e w1 ⟨rfl,rfl⟩
     go_wp2
     go_ret
     exact ⟨ret_int (uh HF).symm,rfl⟩
    ·rw [if_neg hneg] at hd
     have HF:=hide hd
     clear hd hc hcs ho hvl hsn
     generalize xs[m].op = op at *
     generalize arI op = ar at *
     go_wp2_with fail
     refine (uh HAR _).mono ?_
     rintro e w1 ⟨rfl,rfl⟩
     go_wp2_with fail
     refine (uh HAR _).mono ?_
     rintro e w1 ⟨rfl,rfl⟩
     go_wp2
     go_roundg m
     case measure => have:=uh HG; omega
     case rel => exact ⟨m,n + ar.toNat,by omega,rfl,by go_num,int_eq (by omega),by omega,uh HF,rfl⟩
end Go.Proofs.YtfioeoihociilaaGreat
namespace Go.Proofs.YtfioeoihociilaaGreat
set_option linter.unusedSimpArgs false
set_option linter.unusedVariables false
def arF (op : Int) : Nat:=(ocI op).toNat
def Fd {α : Type} (f : DItem → List α → α) (code : List DItem) (b e : Nat) (ss : List α) : Prop :=
  ∀ P : Nat → Nat → List α → Prop, (∀ b, P b b []) → (∀ (b m e : Nat) (ss us : List α) (h : e < code.length), P b m ss → P m e us → us.length = arF code[e].op → P b (e + 1) (ss ++ [f code[e] us])) → P b e ss
theorem Fd.nil {α : Type} {f : DItem → List α → α} {code : List DItem} (b : Nat) : Fd f code b b [] := fun _ h _ => h b
theorem Fd.snoc {α : Type} {f : DItem → List α → α} {code : List DItem} {b m e : Nat} {ss us : List α} (h : e < code.length) (h1 : Fd f code b m ss) (h2 : Fd f code m e us) (h3 : us.length = arF code[e].op) : Fd f code b (e + 1) (ss ++ [f code[e] us]) := fun P a c => c b m e ss us h (h1 P a c) (h2 P a c) h3
theorem Fd.ind {α : Type} {f : DItem → List α → α} {code : List DItem} {motive : ∀ (b e : Nat) (ss : List α), Fd f code b e ss → Prop} (nil : ∀ b, motive b b [] (Fd.nil b)) (snoc : ∀ {b m e : Nat} {ss us : List α} (h : e < code.length) (h1 : Fd f code b m ss) (h2 : Fd f code m e us) (h3 : us.length = arF code[e].op), motive b m ss h1 → motive m e us h2 → motive b (e + 1) (ss ++ [f code[e] us]) (Fd.snoc h h1 h2 h3)) {b e : Nat} {ss : List α} (t : Fd f code b e ss) : motive b e ss t := by
  obtain ⟨_, k⟩ := t (fun b e ss => ∃ h : Fd f code b e ss, motive b e ss h) (fun b => ⟨_, nil b⟩) (fun b m e ss us h ⟨h1, k1⟩ ⟨h2, k2⟩ h3 => ⟨_, snoc h h1 h2 h3 k1 k2⟩)
  exact k
theorem Fd.inv {α : Type} {f : DItem → List α → α} {code : List DItem} {motive : ∀ (b e : Nat) (ss : List α), Fd f code b e ss → Prop} {b e : Nat} {ss : List α} (t : Fd f code b e ss) (nil : ∀ b, motive b b [] (Fd.nil b)) (snoc : ∀ {b m e : Nat} {ss us : List α} (h : e < code.length) (h1 : Fd f code b m ss) (h2 : Fd f code m e us) (h3 : us.length = arF code[e].op), motive b (e + 1) (ss ++ [f code[e] us]) (Fd.snoc h h1 h2 h3)) : motive b e ss t :=
  Fd.ind (motive := motive) nil (fun h h1 h2 h3 _ _ => snoc h h1 h2 h3) t
section
variable {α : Type} {f : DItem → List α → α} {code : List DItem}
theorem Fd.le {b e : Nat} {ss : List α} (h : Fd f code b e ss) : b ≤ e:=by
 induction h using Fd.ind with
 | nil => exact Nat.le_refl _
 | snoc h h1 h2 h3 i1 i2 => omega
theorem Fd.split {b e : Nat} {ss : List α} (h : Fd f code b e ss) : ∀ n,n ≤ ss.length → ∃ m s1 s2,ss = s1 ++ s2 ∧ s2.length = n ∧ Fd f code b m s1 ∧ Fd f code m e s2:=by
 induction h using Fd.ind with
 | nil b =>
  intro n hn
  have : n = 0:=by simpa using hn
  exact ⟨b,[],[],rfl,by simp [this],.nil b,.nil b⟩
 | @snoc b m e ss us h h1 h2 h3 i1 i2 =>
  intro n hn
  match n with
  | 0 => exact ⟨e + 1,_,[],(List.append_nil _).symm,rfl,.snoc h h1 h2 h3,.nil _⟩
  | n + 1 =>
   obtain ⟨m',s1,s2,rfl,hl,c1,c2⟩:=i1 n (by simpa using hn)
   exact ⟨m',s1,s2 ++ [f code[e] us],by simp,by simp [hl],c1,.snoc h c2 h2 h3⟩
theorem Fd.nil_eq {b m : Nat} (h : Fd f code b m []) : b = m:=by
 generalize hs : ([] : List α) = ss at h
 cases h using Fd.inv with
 | nil => rfl
 | snoc _ _ _ _ => simp at hs
theorem Fd.last {b e : Nat} {s : α} (h : Fd f code b (e + 1) [s]) : ∃ (h : e < code.length) (us : List α),Fd f code b e us ∧ us.length = arF code[e].op ∧ s = f code[e] us:=by
 generalize hss : [s] = ss at h
 generalize he : e + 1 = e' at h
 cases h using Fd.inv with
 | nil => cases hss
 | @snoc _ m e2 ss us h h1 h2 h3 =>
  obtain rfl : e = e2:=by omega
  have : ss = [] ∧ s = f code[e] us:=by
   cases ss with
   | nil => simpa using hss
   | cons x xs => simp at hss
  obtain ⟨rfl,rfl⟩:=this
  obtain rfl:=h1.nil_eq
  exact ⟨h,us,h2,h3,rfl⟩
theorem Fd.snoc_inv {b e : Nat} {ss : List α} {n : Nat} (h : Fd f code b e ss) (hn : ss.length = n + 1) :
  ∃ m e1 s0 us,∃ h : e1 < code.length,e = e1 + 1 ∧ ss = s0 ++ [f code[e1] us] ∧ s0.length = n ∧ Fd f code b m s0 ∧ Fd f code m e1 us ∧ us.length = arF code[e1].op:=by
 cases h using Fd.inv with
 | nil => simp at hn
 | @snoc _ m e1 s0 us h h1 h2 h3 => exact ⟨m,e1,s0,us,h,rfl,rfl,by simpa using hn,h1,h2,h3⟩
theorem Fd.one : ∀ e b b' us us',Fd f code b e us → Fd f code b' e us' → us.length = us'.length → b = b' ∧ us = us':=by
 intro e
 induction e using Nat.strongRecOn with
 | _ e ih =>
  intro b b' us us' h h' hl
  match hn : us.length with
  | 0 =>
   have e1 : us = []:=List.eq_nil_of_length_eq_zero hn
   have e2 : us' = []:=List.eq_nil_of_length_eq_zero (by omega)
   subst e1 e2
   exact ⟨h.nil_eq.trans h'.nil_eq.symm,rfl⟩
  | n + 1 =>
   obtain ⟨m,e1,s0,u,hlt,rfl,rfl,hs0,c1,c2,c3⟩:=h.snoc_inv hn
   obtain ⟨m',e1',s0',u',hlt',he',rfl,hs0',c1',c2',c3'⟩:=h'.snoc_inv (n:=n) (by omega)
   obtain rfl : e1 = e1':=by omega
   obtain ⟨rfl,rfl⟩:=ih e1 (Nat.lt_succ_self _) m m' u u' c2 c2' (by rw [c3,c3'])
   obtain ⟨rfl,rfl⟩:=ih m (by have:=c2.le; omega) b b' s0 s0' c1 c1' (by omega)
   exact ⟨rfl,rfl⟩
theorem fd_pre (f : DItem → List α → α) (h : wk code 0 = true) : ∀ k,k ≤ code.length → ∃ ss : List α,Fd f code 0 k ss ∧ wk (code.drop k) ss.length = true ∧ (0 < k → 0 < ss.length):=by
 intro k
 induction k with
 | zero => intro _; exact ⟨[],.nil 0,by simpa using h,fun h => absurd h (Nat.lt_irrefl _)⟩
 | succ k ih =>
  intro hk
  obtain ⟨ss,hc,hw,_⟩:=ih (by omega)
  have hlt : k < code.length:=by omega
  rw [List.drop_eq_getElem_cons hlt] at hw
  simp only [wk] at hw
  have hbd:=ocI_bd code[k].op
  by_cases hneg : (ss.length : Int) < ocI code[k].op
  ·rw [if_pos hneg] at hw; cases hw
  rw [if_neg hneg] at hw
  have har : ((arF code[k].op : Nat) : Int) = ocI code[k].op:=by unfold arF; omega
  obtain ⟨m,s1,s2,rfl,hl2,c1,c2⟩:=hc.split (arF code[k].op) (by omega)
  refine ⟨s1 ++ [f code[k] s2],.snoc hlt c1 c2 hl2,?_,fun _ => by simp⟩
  rw [List.length_append] at hw
  have : (((s1 ++ [f code[k] s2]).length : Nat) : Int) = ((s1.length + s2.length : Nat) : Int) + (1 - ocI code[k].op):=by simp; omega
  rw [this]
  exact hw
theorem fd_opd (f : DItem → List α → α) (h : wk code 0 = true) (k : Nat) (hk : k < code.length) : ∃ b s,Fd f code b (k + 1) [s]:=by
 obtain ⟨ss,hc,_,h0⟩:=fd_pre f h (k + 1) hk
 obtain ⟨m,s1,s2,_,hl2,_,c2⟩:=hc.split 1 (h0 (by omega))
 match s2,hl2 with
 | [s],_ => exact ⟨m,s,c2⟩
theorem fd_all (f : DItem → List α → α) (h : wk code 0 = true) : ∃ s,Fd f code 0 code.length [s]:=by
 obtain ⟨ss,hc,hw,_⟩:=fd_pre f h code.length (Nat.le_refl _)
 rw [List.drop_length] at hw
 have hl : ss.length = 1:=by
  simp [wk] at hw
  omega
 match ss,hl with
 | [s],_ => exact ⟨s,hc⟩
theorem fd_bk (har : ∀ t,t ∈ code → 0 ≤ arI t.op) {b e : Nat} {us : List α} (h : Fd f code b e us) : ∀ n,bk (code.take e).reverse (n + us.length) = bk (code.take b).reverse n:=by
 induction h using Fd.ind with
 | nil b => intro n; simp
 | @snoc b m e ss us h h1 h2 h3 i1 i2 =>
  intro n
  have ha:=har code[e] (List.getElem_mem h)
  have ho:=oc_ar _ ha
  rw [take_rev code e h]
  rw [List.length_append,show n + (ss.length + [f code[e] us].length) = (n + ss.length) + 1 from by simp; omega]
  simp only [bk]
  rw [if_neg (by omega),← i1 n,← i2 (n + ss.length)]
  congr 1
  rw [h3]
  unfold arF
  rw [ho]
theorem fd_bg (har : ∀ t,t ∈ code → 0 ≤ arI t.op) {b e : Nat} {u : α} (h : Fd f code b e [u]) (he : e ≤ code.length) : bgI (code.take e) = b:=by
 have h1:=fd_bk har h 0
 unfold bgI
 rw [show 0 + [u].length = 1 from rfl] at h1
 rw [h1,bk_zero]
 have:=h.le
 simp
 omega
end
def stF {α : Type} (f : DItem → List α → α) (st : List α) (t : DItem) : List α := st.take (st.length - arF t.op) ++ [f t (st.drop (st.length - arF t.op))]
theorem fd_st {α : Type} {f : DItem → List α → α} {code : List DItem} {b e : Nat} {ss : List α} (h : Fd f code b e ss) : ∀ z, z ++ ss = ((code.take e).drop b).foldl (stF f) z := by
  induction h using Fd.ind with
  | nil b => intro z; simp
  | @snoc b m e ss us h h1 h2 h3 i1 i2 =>
    intro z
    have e1 := h1.le
    have e2 := h2.le
    have q1 : code.take (e + 1) = code.take e ++ [code[e]] := by simp
    have q2 : ((code.take e).drop b) = ((code.take m).drop b) ++ ((code.take e).drop m) := by
      conv => lhs; rw [← List.take_append_drop m (code.take e), List.take_take, Nat.min_eq_left e2]
      rw [List.drop_append_of_le_length (by rw [List.length_take]; omega)]
    rw [q1, List.drop_append_of_le_length (by rw [List.length_take]; omega), q2, List.foldl_append, List.foldl_append, ← i1, ← i2]
    show _ = stF f (z ++ ss ++ us) code[e]
    unfold stF
    have q3 : (z ++ ss ++ us).length - us.length = (z ++ ss).length := by simp; omega
    rw [← h3, q3, List.take_left, List.drop_left, List.append_assoc]
def fdV {α : Type} [Inhabited α] (f : DItem → List α → α) (code : List DItem) (e : Nat) : α := ((code.take e).foldl (stF f) []).getLastD default
theorem fdV_of {α : Type} [Inhabited α] {f : DItem → List α → α} {code : List DItem} {b e : Nat} {s : α} (h : Fd f code b e [s]) : fdV f code e = s := by
  have h1 := fd_st h ((code.take b).foldl (stF f) [])
  have h2 : code.take e = code.take b ++ (code.take e).drop b := by
    conv => lhs; rw [← List.take_append_drop b (code.take e), List.take_take, Nat.min_eq_left h.le]
  unfold fdV
  rw [h2, List.foldl_append, ← h1]
  simp
end Go.Proofs.YtfioeoihociilaaGreat
namespace Go.Proofs.YtfioeoihociilaaGreat
open Go.RowKit
set_option linter.unusedSimpArgs false
set_option linter.unusedVariables false
def tyAll (want out : Int) (ks : List Int) : Int:=if ks.all (· == want) = true then out else 0
def tyRest (op : Int) (ks : List Int) : Int :=
 if ks.all (· != 0) = false then 0
 else if op = 1 then 1 else if op = 2 then 2
 else if op = 4 ∨ (6 ≤ op ∧ op ≤ 10) ∨ op = 21 then tyAll 1 1 ks
 else if op = 5 ∨ (17 ≤ op ∧ op ≤ 19) ∨ op = 22 then tyAll 2 2 ks
 else if 13 ≤ op ∧ op ≤ 16 then tyAll 1 2 ks
 else if op = 11 ∨ op = 12 then tyAll (ks.headD 0) 2 ks
 else if op = 20 then (if ks.headD 0 = 2 then tyAll (ks.tail.headD 0) (ks.tail.headD 0) ks.tail else 0)
 else tyAll (ks.headD 0) (ks.headD 0) ks
def tyItem (vs : List DVar) (t : DItem) (ks : List Int) : Int :=
 if t.name.size = 0 then tyRest t.op ks
 else if lookI vs t.name < 0 then 0
 else if t.op = 3 then (lookV vs t.name).type
 else if (lookV vs t.name).type = 2 then tyRest t.op ks else 0
theorem tyRest_no {op : Int} {ks : List Int} (i : Nat) (hi : i < ks.length) (h : ks[i] = 0) : tyRest op ks = 0:=by
 have : ks.all (· != 0) = false:=by
  rw [List.all_eq_false]
  exact ⟨ks[i],List.getElem_mem hi,by simp [h]⟩
 unfold tyRest
 rw [if_pos this]
theorem ks_ok {ks : List Int} (h : ∀ i (hi : i < ks.length),ks[i] ≠ 0) : ks.all (· != 0) = true:=by
 rw [List.all_eq_true]
 intro k hk
 obtain ⟨i,hi,rfl⟩:=List.getElem_of_mem hk
 simpa using h i hi
theorem tyAll_no {want out : Int} {ks : List Int} (i : Nat) (hi : i < ks.length) (h : ks[i] ≠ want) : tyAll want out ks = 0:=by
 have : ks.all (· == want) = false:=by
  rw [List.all_eq_false]
  exact ⟨ks[i],List.getElem_mem hi,by simpa using h⟩
 unfold tyAll
 rw [this]
 rfl
theorem tyAll_yes {want out : Int} {ks : List Int} (h : ∀ i (hi : i < ks.length),ks[i] = want) : tyAll want out ks = out:=by
 have : ks.all (· == want) = true:=by
  rw [List.all_eq_true]
  intro k hk
  obtain ⟨i,hi,rfl⟩:=List.getElem_of_mem hk
  simpa using h i hi
 unfold tyAll
 rw [if_pos this]
def RFl {P : Program} {α : Type} (E : ElF P α) (_ : Nat) (_ : World) (cs : List Value) (x : α) : Prop:=cs = E.f x
theorem RFl_f {P : Program} {α : Type} (E : ElF P α) : ∀ (w : World) (cs : List Value) (x : α),RFl E 0 w cs x → cs = E.f x:=fun _ _ _ h => h
theorem OwnV.flat {P : Program} {α : Type} {E : ElF P α} {w : World} {base : Nat} {v : Value} {xs : List α} (h : OwnV E w base v xs) (hn : xs.length * E.byt ≤ 140737488355328) : SlAt E.sz E.byt (RFl E) 0 w v xs:=h.at (fun _ _ => rfl) hn
theorem OwnV.one {P : Program} {α : Type} {E : ElF P α} (w : World) (base : Nat) (hb : base ≤ w.heap.size) (y : α) : OwnV E (w.alloc (.cells (E.f y).toArray E.T)) base (.slice (some ⟨w.heap.size,0,none⟩) 1 1) [y]:=by
 refine ⟨by simp [E.hf],Or.inr ⟨_,_,(E.f y).toArray,rfl,hb,Deep.blk_alloc_new _ _,Nat.le_refl _,by simp [maxLen],?_,?_⟩⟩
 ·simp [E.hf]
 ·have:=E.hf y
  simp [← this]
theorem OwnV.icell {w : World} {base g cap n : Nat} {xs : List Int} (h : OwnV (elInt) w base (.slice (some ⟨g,0,none⟩) n cap) xs) (i : Nat) (hi : i < xs.length) : w.cell? ⟨g,i,none⟩ = some (.int .i64 xs[i]):=by
 have hn : xs.length = n:=by
  rcases h.shape with ⟨hh,_⟩ | ⟨g1,cap1,hv,_⟩
  ·cases hh
  ·simp only [Value.slice.injEq] at hv
   exact hv.2.1.symm
 subst hn
 have:=World.ownsRow.cells h (g:=g) rfl i (.int .i64 xs[i]) (by
  have:=flat_get (elInt).f 1 (fun _ => rfl) xs i hi 0 (by decide)
  rw [Nat.mul_one,Nat.add_zero] at this
  rw [this]
  rfl)
 rw [Addr.add_lit,Nat.zero_add] at this
 exact this
structure NIn (x : DNode) (b1 b2 b3 : Option Addr) (c1 c2 c3 : Nat) (w : World) : Prop where
 ins : SlAt 3 48 RVar 0 w (.slice b1 x.ins.length c1) x.ins
 outs : SlAt 3 48 RVar 0 w (.slice b2 x.outs.length c2) x.outs
 vars : SlAt 3 48 RVar 0 w (.slice b3 x.vars.length c3) x.vars
theorem NIn.stays {x : DNode} {b1 b2 b3 : Option Addr} {c1 c2 c3 : Nat} {w w' : World} (h : NIn x b1 b2 b3 c1 c2 c3 w) (hb : Below w.heap.size w w') : NIn x b1 b2 b3 c1 c2 c3 w' :=
 ⟨h.ins.stays RVar_kept hb,h.outs.stays RVar_kept hb,h.vars.stays RVar_kept hb⟩
set_option maxRecDepth 20000 in
set_option maxHeartbeats 4000000 in
theorem l2Type_var (x : DNode) (b1 b2 b3 b4 : Option Addr) (c1 c2 c3 n4 c4 : Nat) (hsum : x.ins.length + x.outs.length + x.vars.length ≤ 1048576) (code : List DItem) (v : Value) (hit : ∀ t,t ∈ code → itB t = true) (l b : Nat) (ty : Int)
  (hfd : Fd (tyItem (allV x)) code b (l + 1) [ty]) (w : World) (hni : NIn x b1 b2 b3 c1 c2 c3 w) (hv : SlAt 3 32 RItem 0 w v code) (hlt0 : l < code.length) (h3 : code[l].op = 3) :
  Calls Tryz.prog 48 #[.agg #[.string x.name,.slice b1 x.ins.length c1,.slice b2 x.outs.length c2,.slice b3 x.vars.length c3,.slice b4 n4 c4],v,.int .i64 ((l : Int) + 1)] w (Ans (.int .i64 ty) w):=by
 obtain ⟨hlt,us,hus,hul,hty⟩:=hfd.last
 obtain ⟨hi0,hir,hin⟩:=(it_iff code[l]).1 (hit _ (List.getElem_mem hlt))
 have hx:=hv
 obtain ⟨a,cap,rfl,_,hn,hx⟩:=hx
 unfold Len at hn
 obtain ⟨bb,oo,cs,rfl,_,hbb,hcs,hc,hR⟩:=hx l hlt
 obtain ⟨rfl,hsn,hop,hvl⟩:=hR
 have q0:=hc 0 (by simp)
 have q1:=hc 1 (by simp)
 have q2:=hc 2 (by simp)
 simp only [Nat.mul_one,Nat.add_zero,List.getElem_cons_zero,List.getElem_cons_succ] at q0 q1 q2
 have hA : Below w.heap.size w ((w.alloc (.cells #[.string x.name,.slice b1 x.ins.length c1,.slice b2 x.outs.length c2,.slice b3 x.vars.length c3,.slice b4 n4 c4] 45)).alloc (.cells #[.int .i64 code[l].op,.int .i64 code[l].val,.string code[l].name] 103)):=((Below.refl _ _).alloc (Nat.le_refl _) _).alloc (by simp) _
 have HA:=hide hA
 have HC:=hide (l2Var_ok x _ _ _ _ code[l].name ((w.alloc (.cells #[.string x.name,.slice b1 x.ins.length c1,.slice b2 x.outs.length c2,.slice b3 x.vars.length c3,.slice b4 n4 c4] 45)).alloc (.cells #[.int .i64 code[l].op,.int .i64 code[l].val,.string code[l].name] 103)) (hni.stays hA).ins (hni.stays hA).outs (hni.stays hA).vars ⟨b4,n4,c4,rfl⟩ hsum)
 have hnz : ¬ code[l].name.size = 0:=by
  intro h
  simp only [nmB,h3] at hin
  simp [nameB,plainB,freshB,h] at hin
 have e4:=empty_no code[l].name hnz
 have e4':=isEmpty_no code[l].name hnz
 have hBI : BlkAt ((w.alloc (.cells #[.string x.name,.slice b1 x.ins.length c1,.slice b2 x.outs.length c2,.slice b3 x.vars.length c3,.slice b4 n4 c4] 45)).alloc (.cells #[.int .i64 code[l].op,.int .i64 code[l].val,.string code[l].name] 103)) (w.heap.size + 1) 103 #[.int .i64 code[l].op,.int .i64 code[l].val,.string code[l].name]:=by
  have:=blk_box (w.alloc (.cells #[.string x.name,.slice b1 x.ins.length c1,.slice b2 x.outs.length c2,.slice b3 x.vars.length c3,.slice b4 n4 c4] 45)) #[.int .i64 code[l].op,.int .i64 code[l].val,.string code[l].name] 103
  rwa [show (w.alloc (.cells #[.string x.name,.slice b1 x.ins.length c1,.slice b2 x.outs.length c2,.slice b3 x.vars.length c3,.slice b4 n4 c4] 45)).heap.size = w.heap.size + 1 from by simp] at this
 have HBI:=hide hBI
 have HAz : Hid (((w.alloc (.cells #[.string x.name,.slice b1 x.ins.length c1,.slice b2 x.outs.length c2,.slice b3 x.vars.length c3,.slice b4 n4 c4] 45)).alloc (.cells #[.int .i64 code[l].op,.int .i64 code[l].val,.string code[l].name] 103)).heap.size = w.heap.size + 2):=by
  show ((w.alloc (.cells #[.string x.name,.slice b1 x.ins.length c1,.slice b2 x.outs.length c2,.slice b3 x.vars.length c3,.slice b4 n4 c4] 45)).alloc (.cells #[.int .i64 code[l].op,.int .i64 code[l].val,.string code[l].name] 103)).heap.size = w.heap.size + 2
  simp
 have HTY : Hid (ty = if lookI (allV x) code[l].name < 0 then 0 else (lookV (allV x) code[l].name).type):=by
  show ty = if lookI (allV x) code[l].name < 0 then 0 else (lookV (allV x) code[l].name).type
  rw [hty]
  unfold tyItem
  rw [if_neg hnz,if_pos h3]
 unfold VarOut at HC
 clear hx hc hcs hus hul hty hin hir hi0 hit hfd hv hni hA hnz hBI hsn hvl hop
 generalize lookI (allV x) code[l].name = li at *
 generalize lookV (allV x) code[l].name = lv at *
 generalize code[l].name = nm at *
 generalize code[l].val = vl at *
 generalize code[l].op = op at *
 subst h3
 go_enter Tryz.func48,Tryz.ntmps48
 go_wp2_with fail
 refine (uh HC).mono ?_
 rintro e w1 ⟨cl,rfl,hcl,hb1⟩
 have HB1 : Hid (Below w.heap.size w w1):=(uh HA).trans (hb1.mono (uh HA).size)
 have hs1 : w.heap.size + 2 ≤ w1.heap.size:=by have:=hb1.size; rw [uh HAz] at this; exact this
 have hbi:=(uh HBI).below hb1 (by rw [uh HAz]; omega)
 have r0:=hbi.cell (i:=0) rfl
 obtain ⟨ac,cc,rfl⟩:=hcl.shape
 have r0':=(hbi.below ((Below.refl w1.heap.size w1).alloc (Nat.le_refl _) (.cells #[.string lv.name,.int .i64 lv.type,.slice ac lv.clock.length cc] 63)) (by omega)).cell (i:=0) (v:=.int .i64 3) rfl
 have HF : Hid (Below w.heap.size w (w1.alloc (.cells #[.string lv.name,.int .i64 lv.type,.slice ac lv.clock.length cc] 63))):=(uh HB1).alloc (uh HB1).size _
 clear hb1 hcl hbi HC
 by_cases hneg : li < 0
 ·rw [if_pos hneg] at HTY
  have d1 : decide (li < 0) = true:=by simpa using hneg
  go_wp2
  go_ret
  exact ⟨by rw [uh HTY]; rfl,uh HF⟩
 ·rw [if_neg hneg] at HTY
  have d1 : decide (li < 0) = false:=by simpa using hneg
  go_wp2
  go_ret
  exact ⟨by rw [uh HTY]; rfl,uh HF⟩
end Go.Proofs.YtfioeoihociilaaGreat
