import Derived.Test.YtajabbnlbopcbaaGreatDoorV3
import Derived.Test.YtajabbnlbopcbaaGreatDoorV15
import Derived.Test.YtajabbnlbopcbaaGreatDoorPGG
import Derived.Deep.RegionHeld3
namespace Go.Proofs.YtajabbnlbopcbaaGreatDoor
open Go.RowKit
set_option linter.unusedSimpArgs false
set_option linter.unusedVariables false
structure KpH (T h : Nat) (X Y : World) : Prop where
 os : Y.os = X.os
 tape : Y.tape = X.tape
 output : Y.output = X.output
 size : X.heap.size ≤ Y.heap.size
 low : ∀ (b : Nat),b < X.heap.size → b < h → Y.heap[b]? = X.heap[b]?
 oth : ∀ (b : Nat) (cur : Array Value) (U : TypeId),X.heap[b]? = some (Obj.cells cur U (0,0)) → U ≠ T → Y.heap[b]? = X.heap[b]?
section
variable {T h : Nat} {X Y Z : World}
theorem KpH.trans (p : KpH T h X Y) (q : KpH T h Y Z) : KpH T h X Z :=
 ⟨q.os.trans p.os,q.tape.trans p.tape,q.output.trans p.output,Nat.le_trans p.size q.size,fun b g1 g2 => (q.low b (Nat.lt_of_lt_of_le g1 p.size) g2).trans (p.low b g1 g2),fun b cur U g1 g2 => by
  have e:=p.oth b cur U g1 g2
  exact (q.oth b cur U (e.trans g1) g2).trans e⟩
theorem cells_lt {b : Nat} {cur : Array Value} {U : TypeId} (h : X.heap[b]? = some (Obj.cells cur U (0,0))) : b < X.heap.size:=(Array.getElem?_eq_some_iff.1 h).1
theorem KpH.below (T h : Nat) (hb : Below X.heap.size X Y) : KpH T h X Y:=⟨hb.os,hb.tape,hb.output,hb.size,fun b g _ => hb.block b g,fun b cur U g _ => hb.block b (cells_lt g)⟩
theorem KpH.ofTr {r : Nat} (ht : Tr r X Y) {cs : Array Value} (hr : BlkAt X r T cs) (hh : h ≤ r) : KpH T h X Y :=
 ⟨ht.os,ht.tape,ht.output,ht.size,fun b g1 g2 => ht.block b g1 (by omega),fun b cur U g1 g2 => ht.block b (cells_lt g1) (fun e => by
  subst e
  unfold BlkAt at hr
  rw [hr] at g1
  simp only [Option.some.injEq,Obj.cells.injEq] at g1
  exact g2 g1.2.1.symm)⟩
theorem KpH.ofGrown {row : Option Nat} (hg : X.grownBy Y row) (hr : ∀ b,row = some b → h ≤ b ∧ ∃ cur,X.heap[b]? = some (Obj.cells cur T (0,0))) : KpH T h X Y :=
 ⟨hg.os,hg.tape,hg.output,hg.size,fun b g1 g2 => hg.block b g1 (fun e => by have:=(hr b e.symm).1; omega),fun b cur U g1 g2 => hg.block b (cells_lt g1) (fun e => by
  obtain ⟨_,cur2,h9⟩:=hr b e.symm
  rw [h9] at g1
  simp only [Option.some.injEq,Obj.cells.injEq] at g1
  exact g2 g1.2.1.symm)⟩
theorem KpH.own {α : Type} {E : ElF Tryz.prog α} {B : Nat} {v : Value} {xs : List α} (ho : OwnV E X B v xs) (hg : X.grownBy Y v.ownBlock) : KpH E.T B X Y:=KpH.ofGrown hg (fun b hb => ⟨ho.block b hb,ho.cellT hb⟩)
theorem KpH.set {g : Nat} {cs : Array Value} (hb : BlkAt X g T cs) (hh : h ≤ g) (i : Nat) (u : Value) : KpH T h X (X.setCell ⟨g,i,none⟩ u):=KpH.ofTr (Tr.setCell g X i u) hb hh
theorem BlkAt.kp {b U : Nat} {cs : Array Value} (hb : BlkAt X b U cs) (p : KpH T h X Y) (hu : U ≠ T ∨ b < h) : BlkAt Y b U cs:=by
 rcases hu with hu | hu
 ·exact (p.oth b cs U hb hu).trans hb
 ·exact (p.low b hb.lt hu).trans hb
theorem OwnV.kp {α : Type} {E : ElF Tryz.prog α} {B : Nat} {v : Value} {xs : List α} (ho : OwnV E X B v xs) (p : KpH T h X Y) (hu : E.T ≠ T ∨ ∀ b,v.ownBlock = some b → b < h) : OwnV E Y B v xs :=
 ho.ofBlock (fun b hb => by
  obtain ⟨cur,hc⟩:=ho.cellT hb
  rcases hu with hu | hu
  ·exact p.oth b cur E.T hc hu
  ·exact p.low b (cells_lt hc) (hu b hb))
theorem Tr.kp {r : Nat} {w : World} (ht : Tr r w X) (p : KpH T h X Y) (hw : w.heap.size ≤ h) : Tr r w Y :=
 ⟨p.os.trans ht.os,p.tape.trans ht.tape,p.output.trans ht.output,Nat.le_trans ht.size p.size,fun k g1 g2 => (p.low k (Nat.lt_of_lt_of_le g1 ht.size) (by omega)).trans (ht.block k g1 g2)⟩
theorem CuAt.kp {code : List Int} {W0 : World} {cb : Nat} {cv : Value} {c : Cur} (hc : CuAt code W0 cb cv X c) (p : KpH T h X Y) (hw : cb < h) : CuAt code W0 cb cv Y c :=
 ⟨hc.cod,hc.few,hc.low,hc.old.trans ⟨p.os,p.tape,p.output,p.size,fun k g => p.low k (by have:=hc.old.size; omega) (by have:=hc.low; omega)⟩,hc.blk.kp p (Or.inr hw)⟩
end
def tyS : List Nat:=[86,88,9,55]
def Sd (lo hi : Nat) (w : World) (b : Nat) : Prop:=lo ≤ b ∧ b < hi ∧ ∃ cur U,U ∈ tyS ∧ w.heap[b]? = some (Obj.cells cur U (0,0))
def Rk {α : Type} {sz : Nat} (E : ElF Tryz.prog (Raw sz)) (R : World → List Value → α → List Nat → Prop) (lo hi : Nat) (w : World) (v : Value) (xs : List α) : Prop :=
 ∃ (css : List (Raw sz)) (subs : List (List Nat)),OwnV E w lo v css ∧ All3 (fun c x s => R w c.1 x s) css xs subs ∧ ∀ b,b ∈ subs.flatten → Sd lo hi w b
def Dj (a b : Value) : Prop:=∀ x,a.ownBlock = some x → b.ownBlock ≠ some x
theorem Dj.symm {a b : Value} (h : Dj a b) : Dj b a:=fun x h1 h2 => h x h2 h1
section
variable {T h : Nat} {X Y A Z : World} {α : Type} {sz lo hi : Nat} {E : ElF Tryz.prog (Raw sz)} {R : World → List Value → α → List Nat → Prop} {v v' : Value} {xs : List α}
theorem Sd.kp {b : Nat} (hs : Sd lo hi X b) (p : KpH T h X Y) (ht : T ∉ tyS ∨ hi ≤ h) : Y.heap[b]? = X.heap[b]? ∧ Sd lo hi Y b:=by
 obtain ⟨h1,h2,cur,U,h3,h4⟩:=hs
 have e : Y.heap[b]? = X.heap[b]?:=by
  rcases ht with ht | ht
  ·exact p.oth b cur U h4 (fun e => ht (e ▸ h3))
  ·exact p.low b (cells_lt h4) (by omega)
 exact ⟨e,h1,h2,cur,U,h3,e.trans h4⟩
theorem Rk.kp (hR : FrBy R) (hr : Rk E R lo hi X v xs) (p : KpH T h X Y) (ht : T ∉ tyS ∨ hi ≤ h) (hu : E.T ≠ T ∨ ∀ b,v.ownBlock = some b → b < h) : Rk E R lo hi Y v xs:=by
 obtain ⟨css,subs,h1,h2,h3⟩:=hr
 exact ⟨css,subs,h1.kp p hu,h2.mono (fun c x s _ _ hs h9 => hR _ _ _ _ _ h9 (fun b hb => ((h3 b (List.mem_flatten.2 ⟨s,hs,hb⟩)).kp p ht).1)),fun b hb => ((h3 b hb).kp p ht).2⟩
theorem Rk.up (hr : Rk E R lo hi X v xs) {hi' : Nat} (hh : hi ≤ hi') : Rk E R lo hi' X v xs:=by
 obtain ⟨css,subs,h1,h2,h3⟩:=hr
 exact ⟨css,subs,h1,h2,fun b hb => by obtain ⟨g1,g2,g3⟩:=h3 b hb; exact ⟨g1,by omega,g3⟩⟩
theorem Rk.nil (E : ElF Tryz.prog (Raw sz)) (R : World → List Value → α → List Nat → Prop) (lo hi : Nat) (X : World) : Rk E R lo hi X (.slice none 0 0) []:=⟨[],[],OwnV.nil _ _,.nil,fun b hb => absurd hb (List.not_mem_nil)⟩
theorem Rk.slice (hr : Rk E R lo hi X v xs) : ∃ a cap,v = .slice a xs.length cap:=by
 obtain ⟨css,subs,h1,h2,h3⟩:=hr
 rw [← h2.len.1]
 exact h1.slice
theorem Rk.blk (hr : Rk E R lo hi X v xs) : ∀ b,v.ownBlock = some b → lo ≤ b ∧ b < X.heap.size ∧ ∃ cur,X.heap[b]? = some (Obj.cells cur E.T (0,0)):=by
 obtain ⟨css,subs,h1,h2,h3⟩:=hr
 exact fun b hb => ⟨(World.ownsRow.lt h1 b hb).1,(World.ownsRow.lt h1 b hb).2,h1.cellT hb⟩
theorem Rk.other (hR : FrBy R) (hE : E.T ∉ tyS) (hr : Rk E R lo hi X v xs) {u : Value} {β : Type} {S : World → List Value → β → List Nat → Prop} {ys : List β} (hu : Rk E S lo hi X u ys) (hg : X.grownBy Y u.ownBlock) (hd : Dj u v) : Rk E R lo hi Y v xs:=by
 have p : KpH E.T 0 X Y:=KpH.ofGrown hg (fun b hb => ⟨Nat.zero_le _,(hu.blk b hb).2.2⟩)
 obtain ⟨css,subs,h1,h2,h3⟩:=hr
 exact ⟨css,subs,h1.ofBlock (fun b hb => hg.block b (World.ownsRow.lt h1 b hb).2 (fun e => hd b e.symm hb)),h2.mono (fun c x s _ _ hs h9 => hR _ _ _ _ _ h9 (fun b hb => ((h3 b (List.mem_flatten.2 ⟨s,hs,hb⟩)).kp p (Or.inl hE)).1)),fun b hb => ((h3 b hb).kp p (Or.inl hE)).2⟩
theorem Rk.push (hR : FrBy R) (hE : E.T ∉ tyS) (hr : Rk E R lo hi A v xs) (hB : lo ≤ A.heap.size) {c : Raw sz} {x : α} {s : List Nat} (hc : R A c.1 x s) (hs : ∀ b,b ∈ s → Sd lo hi A b) (hf : E.f c = c.1) {eb : Nat} (hbx : BlkAt A eb E.T c.1.toArray) (hl : (xs.length + 1) * E.byt ≤ 140737488355328) (ty : TypeId) :
  ∃ v' Z,(Builtin.append_ #[E.ST,E.ST] ty #[v,.slice (some ⟨eb,0,none⟩) 1 1]).run Tryz.prog A = .ok v' Z ∧ Rk E R lo hi Z v' (xs ++ [x]) ∧ A.grownBy Z v.ownBlock ∧ (∀ b,v'.ownBlock = some b → v.ownBlock = some b ∨ A.heap.size ≤ b):=by
 obtain ⟨css,subs,h1,h2,h3⟩:=hr
 obtain ⟨v',Z,hrun,ho,hg,hn⟩:=run_append_one E A ty lo v css h1 eb c (fun j u hu => by rw [hf] at hu; exact hbx.cell (by simpa using hu)) (by rw [h2.len.1]; exact hl) hB
 have p : KpH E.T 0 A Z:=KpH.ofGrown hg (fun b hb => ⟨Nat.zero_le _,h1.cellT hb⟩)
 refine ⟨v',Z,hrun,⟨css ++ [c],subs ++ [s],ho,(h2.mono (fun c x s _ _ hs h9 => hR _ _ _ _ _ h9 (fun b hb => ((h3 b (List.mem_flatten.2 ⟨s,hs,hb⟩)).kp p (Or.inl hE)).1))).app (.cons (hR _ _ _ _ _ hc (fun b hb => ((hs b hb).kp p (Or.inl hE)).1)) .nil),fun b hb => ?_⟩,hg,hn⟩
 rw [List.flatten_append,List.mem_append] at hb
 rcases hb with hb | hb
 ·exact ((h3 b hb).kp p (Or.inl hE)).2
 ·simp only [List.flatten_cons,List.flatten_nil,List.append_nil] at hb
  exact ((hs b hb).kp p (Or.inl hE)).2
theorem Dj.grown {u : Value} (hd : Dj v u) (hn : ∀ b,v'.ownBlock = some b → v.ownBlock = some b ∨ A.heap.size ≤ b) (hu : ∀ b,u.ownBlock = some b → b < A.heap.size) : Dj v' u:=fun x h1 h2 => by
 rcases hn x h1 with h3 | h3
 ·exact hd x h3 h2
 ·have:=hu x h2; omega
theorem Rk.rowT (hr : Rk E R lo hi X v xs) (hl : xs.length * E.byt ≤ 140737488355328) (hh : hi ≤ X.heap.size) : ∃ bs,RowT E R X v xs bs ∧ ∀ b,b ∈ bs → lo ≤ b ∧ b < X.heap.size ∧ ∃ cur U,U ∈ E.T :: tyS ∧ X.heap[b]? = some (Obj.cells cur U (0,0)):=by
 have hb9:=hr.blk
 obtain ⟨css,subs,h1,h2,h3⟩:=hr
 refine ⟨_,⟨css,subs,h1.low (Nat.zero_le _),by rw [h2.len.1]; exact hl,h2,rfl⟩,fun b hb => ?_⟩
 rcases List.mem_append.1 hb with hb | hb
 ·obtain ⟨g1,g2,cur,g3⟩:=hb9 b (mem_blkOf.1 hb)
  exact ⟨g1,g2,cur,_,List.mem_cons_self ..,g3⟩
 ·obtain ⟨g1,g2,cur,U,g3,g4⟩:=h3 b hb
  exact ⟨g1,by omega,cur,U,List.mem_cons_of_mem _ g3,g4⟩
end
theorem RowD.slLo {α : Type} {E : ElF Tryz.prog α} {ok : α → Prop} {R : Nat → World → List Value → α → Prop} {lo : Nat} {w : World} {v : Value} {xs : List α} {bs : List Nat} (h : RowD E ok w v xs bs) (hlo : ∀ b,b ∈ bs → lo ≤ b) (hR : ∀ x,ok x → R lo w (E.f x) x) : SlAt E.sz E.byt R lo w v xs:=by
 obtain ⟨h1,h2,h3,rfl⟩:=h
 obtain ⟨a,cap,hv,g1,g2,g3⟩:=h1.at (R:=fun _ w cs x => R lo w cs x) (fun x hx => hR x (h2 x hx)) h3
 refine ⟨a,cap,hv,g1,g2,fun i hi => ?_⟩
 obtain ⟨b,o,cs,rfl,_,e3⟩:=g3 i hi
 refine ⟨b,o,cs,rfl,hlo b (mem_blkOf.2 ?_),e3⟩
 rcases h1.shape with ⟨_,h0⟩ | ⟨g,cap1,hv1,_⟩
 ·rw [h0] at hi
  exact absurd hi (by simp)
 ·rw [hv] at hv1
  simp only [Value.slice.injEq,Option.some.injEq,Addr.mk.injEq] at hv1
  rw [hv,hv1.1.1,hv1.1.2.1]
  rfl
theorem RowT.slLo {α : Type} {sz lo : Nat} {E : ElF Tryz.prog (Raw sz)} {R : World → List Value → α → List Nat → Prop} {S : Nat → World → List Value → α → Prop} (hE : E.sz = sz) (hf : ∀ c,E.f c = c.1) {w : World} (hS : ∀ cs x bs,R w cs x bs → (∀ b,b ∈ bs → lo ≤ b) → S lo w cs x) {v : Value} {xs : List α} {bs : List Nat} (h : RowT E R w v xs bs) (hlo : ∀ b,b ∈ bs → lo ≤ b) : SlAt sz E.byt S lo w v xs:=by
 obtain ⟨css,subs,h1,h2,h3,rfl⟩:=h
 have h8 : RowD E (fun _ => True) w v css (blkOf v):=⟨h1,fun _ _ => trivial,h2,rfl⟩
 have h9 : SlAt E.sz E.byt RRaw lo w v css:=h8.slLo (fun b hb => hlo b (List.mem_append_left _ hb)) (fun c _ => hf c)
 rw [hE] at h9
 have hl:=h3.len
 exact h9.ofRaw hl.1 (fun i g1 g2 => hS _ _ _ (h3.get i g1 g2 (by omega)) (fun b hb => hlo b (List.mem_append_right _ (List.mem_flatten.2 ⟨_,List.getElem_mem (by omega),hb⟩))))
theorem TItems_lo {lo : Nat} {w : World} {cs : List Value} {l : List DItem} {bs : List Nat} (h : TItems w cs l bs) (hlo : ∀ b,b ∈ bs → lo ≤ b) : RItems lo w cs l:=by
 obtain ⟨v,h1,h2⟩:=h
 exact ⟨v,h1,h2.slLo hlo (fun x hx => ⟨rfl,hx.1,hx.2.1,hx.2.2⟩)⟩
theorem TVar_lo {lo : Nat} {w : World} {cs : List Value} {x : DVar} {bs : List Nat} (h : TVar w cs x bs) (hlo : ∀ b,b ∈ bs → lo ≤ b) : RVar lo w cs x:=by
 obtain ⟨v,h1,h2,h3,h4⟩:=h
 exact ⟨v,h1,h2,h3,h4.slLo hlo (fun x hx => ⟨rfl,hx⟩)⟩
theorem TEq_lo {lo : Nat} {w : World} {cs : List Value} {x : DEq} {bs : List Nat} (h : TEq w cs x bs) (hlo : ∀ b,b ∈ bs → lo ≤ b) : REq lo w cs x:=by
 obtain ⟨l,c,a,b1,b2,b3,h1,h2,h3,h4,h5,rfl⟩:=h
 exact ⟨l,c,a,h1,h2,h3.slLo (fun b hb => hlo b (by simp [hb])) (fun x hx => ⟨rfl,hx⟩),h4.slLo (fun b hb => hlo b (by simp [hb])) (fun x hx => ⟨rfl,hx.1,hx.2.1,hx.2.2⟩),h5.slLo rfl (fun _ => rfl) (fun cs x bs h g => TItems_lo h g) (fun b hb => hlo b (by simp [hb]))⟩
theorem TNode_lo {lo : Nat} {w : World} {cs : List Value} {x : DNode} {bs : List Nat} (h : TNode w cs x bs) (hlo : ∀ b,b ∈ bs → lo ≤ b) : RNode lo w cs x:=by
 obtain ⟨v1,v2,v3,v4,b1,b2,b3,b4,h0,hn,h1,h2,h3,h4,rfl⟩:=h
 exact ⟨v1,v2,v3,v4,h0,hn,h1.slLo rfl (fun _ => rfl) (fun cs x bs h g => TVar_lo h g) (fun b hb => hlo b (by simp [hb])),h2.slLo rfl (fun _ => rfl) (fun cs x bs h g => TVar_lo h g) (fun b hb => hlo b (by simp [hb])),h3.slLo rfl (fun _ => rfl) (fun cs x bs h g => TVar_lo h g) (fun b hb => hlo b (by simp [hb])),h4.slLo rfl (fun _ => rfl) (fun cs x bs h g => TEq_lo h g) (fun b hb => hlo b (by simp [hb]))⟩
theorem Rk.vars {lo hi : Nat} {X : World} {v : Value} {xs : List DVar} (hr : Rk rVar TVar lo hi X v xs) (hl : xs.length ≤ 1000000) (hh : hi ≤ X.heap.size) {l : Nat} (hlo : l ≤ lo) : SlAt 3 48 RVar l X v xs:=by
 obtain ⟨bs,h1,h2⟩:=hr.rowT (show xs.length * 48 ≤ _ by omega) hh
 exact h1.slLo rfl (fun _ => rfl) (fun cs x bs h g => TVar_lo h g) (fun b hb => Nat.le_trans hlo (h2 b hb).1)
structure Vz (lo hi : Nat) (X : World) (sv vi vo vv : Value) (xs is os vs : List DVar) : Prop where
 s : Rk rVar TVar lo hi X sv xs
 i : Rk rVar TVar lo hi X vi is
 o : Rk rVar TVar lo hi X vo os
 v : Rk rVar TVar lo hi X vv vs
 si : Dj sv vi
 so : Dj sv vo
 sv' : Dj sv vv
 io : Dj vi vo
 iv : Dj vi vv
 ov : Dj vo vv
section
variable {T h lo hi : Nat} {X Y A Z : World} {sv vi vo vv : Value} {xs is os vs : List DVar}
theorem Vz.kp (p : Vz lo hi X sv vi vo vv xs is os vs) (q : KpH T h X Y) (ht : T ∉ tyS ∨ hi ≤ h) (hu : 67 ≠ T) : Vz lo hi Y sv vi vo vv xs is os vs :=
 ⟨p.s.kp TVar_fr q ht (Or.inl hu),p.i.kp TVar_fr q ht (Or.inl hu),p.o.kp TVar_fr q ht (Or.inl hu),p.v.kp TVar_fr q ht (Or.inl hu),p.si,p.so,p.sv',p.io,p.iv,p.ov⟩
theorem Vz.up (p : Vz lo hi X sv vi vo vv xs is os vs) {hi' : Nat} (hh : hi ≤ hi') : Vz lo hi' X sv vi vo vv xs is os vs:=⟨p.s.up hh,p.i.up hh,p.o.up hh,p.v.up hh,p.si,p.so,p.sv',p.io,p.iv,p.ov⟩
theorem var_notS : rVar.T ∉ tyS:=by decide
theorem eq_notS : rEq.T ∉ tyS:=by decide
theorem Vz.pushS (p : Vz lo hi A sv vi vo vv xs is os vs) (hB : lo ≤ A.heap.size) {c : Raw 3} {x : DVar} {s : List Nat} (hc : TVar A c.1 x s) (hs : ∀ b,b ∈ s → Sd lo hi A b) {eb : Nat} (hbx : BlkAt A eb 67 c.1.toArray) (hl : xs.length ≤ 1000) :
  ∃ v' Z,(Builtin.append_ #[40,40] 40 #[sv,.slice (some ⟨eb,0,none⟩) 1 1]).run Tryz.prog A = .ok v' Z ∧ Vz lo hi Z v' vi vo vv (xs ++ [x]) is os vs ∧ A.grownBy Z sv.ownBlock ∧ (∀ b,v'.ownBlock = some b → sv.ownBlock = some b ∨ A.heap.size ≤ b):=by
 obtain ⟨v',Z,g1,g2,g3,g4⟩:=p.s.push TVar_fr var_notS hB hc hs rfl hbx (show (xs.length + 1) * 48 ≤ _ by omega) 40
 exact ⟨v',Z,g1,⟨g2,p.i.other TVar_fr var_notS p.s g3 (p.si),p.o.other TVar_fr var_notS p.s g3 (p.so),p.v.other TVar_fr var_notS p.s g3 (p.sv'),(p.si).grown g4 (fun b hb => (p.i.blk b hb).2.1),(p.so).grown g4 (fun b hb => (p.o.blk b hb).2.1),(p.sv').grown g4 (fun b hb => (p.v.blk b hb).2.1),p.io,p.iv,p.ov⟩,g3,g4⟩
theorem Vz.pushO (p : Vz lo hi A sv vi vo vv xs is os vs) (hB : lo ≤ A.heap.size) {c : Raw 3} {x : DVar} {s : List Nat} (hc : TVar A c.1 x s) (hs : ∀ b,b ∈ s → Sd lo hi A b) {eb : Nat} (hbx : BlkAt A eb 67 c.1.toArray) (hl : os.length ≤ 1000) :
  ∃ v' Z,(Builtin.append_ #[40,40] 40 #[vo,.slice (some ⟨eb,0,none⟩) 1 1]).run Tryz.prog A = .ok v' Z ∧ Vz lo hi Z sv vi v' vv xs is (os ++ [x]) vs ∧ A.grownBy Z vo.ownBlock ∧ (∀ b,v'.ownBlock = some b → vo.ownBlock = some b ∨ A.heap.size ≤ b):=by
 obtain ⟨v',Z,g1,g2,g3,g4⟩:=p.o.push TVar_fr var_notS hB hc hs rfl hbx (show (os.length + 1) * 48 ≤ _ by omega) 40
 exact ⟨v',Z,g1,⟨p.s.other TVar_fr var_notS p.o g3 (p.so.symm),p.i.other TVar_fr var_notS p.o g3 (p.io.symm),g2,p.v.other TVar_fr var_notS p.o g3 (p.ov),p.si,((p.so.symm).grown g4 (fun b hb => (p.s.blk b hb).2.1)).symm,p.sv',((p.io.symm).grown g4 (fun b hb => (p.i.blk b hb).2.1)).symm,p.iv,(p.ov).grown g4 (fun b hb => (p.v.blk b hb).2.1)⟩,g3,g4⟩
theorem Vz.pushV (p : Vz lo hi A sv vi vo vv xs is os vs) (hB : lo ≤ A.heap.size) {c : Raw 3} {x : DVar} {s : List Nat} (hc : TVar A c.1 x s) (hs : ∀ b,b ∈ s → Sd lo hi A b) {eb : Nat} (hbx : BlkAt A eb 67 c.1.toArray) (hl : vs.length ≤ 1000) :
  ∃ v' Z,(Builtin.append_ #[40,40] 40 #[vv,.slice (some ⟨eb,0,none⟩) 1 1]).run Tryz.prog A = .ok v' Z ∧ Vz lo hi Z sv vi vo v' xs is os (vs ++ [x]) ∧ A.grownBy Z vv.ownBlock ∧ (∀ b,v'.ownBlock = some b → vv.ownBlock = some b ∨ A.heap.size ≤ b):=by
 obtain ⟨v',Z,g1,g2,g3,g4⟩:=p.v.push TVar_fr var_notS hB hc hs rfl hbx (show (vs.length + 1) * 48 ≤ _ by omega) 40
 exact ⟨v',Z,g1,⟨p.s.other TVar_fr var_notS p.v g3 (p.sv'.symm),p.i.other TVar_fr var_notS p.v g3 (p.iv.symm),p.o.other TVar_fr var_notS p.v g3 (p.ov.symm),g2,p.si,p.so,((p.sv'.symm).grown g4 (fun b hb => (p.s.blk b hb).2.1)).symm,p.io,((p.iv.symm).grown g4 (fun b hb => (p.i.blk b hb).2.1)).symm,((p.ov.symm).grown g4 (fun b hb => (p.o.blk b hb).2.1)).symm⟩,g3,g4⟩
end
structure Qz (lo hi : Nat) (X : World) (ev qv : Value) (es qs : List DEq) : Prop where
 e : Rk rEq TEq lo hi X ev es
 q : Rk rEq TEq lo hi X qv qs
 d : Dj ev qv
 eh : ∀ b,ev.ownBlock = some b → b < hi
 qh : ∀ b,qv.ownBlock = some b → b < hi
section
variable {T h lo hi : Nat} {X Y A Z : World} {ev qv : Value} {es qs : List DEq}
theorem Qz.kp (p : Qz lo hi X ev qv es qs) (q : KpH T h X Y) (ht : T ∉ tyS ∨ hi ≤ h) (hu : 58 ≠ T ∨ hi ≤ h) : Qz lo hi Y ev qv es qs :=
 ⟨p.e.kp TEq_fr q ht (hu.imp id (fun g b hb => Nat.lt_of_lt_of_le (p.eh b hb) g)),p.q.kp TEq_fr q ht (hu.imp id (fun g b hb => Nat.lt_of_lt_of_le (p.qh b hb) g)),p.d,p.eh,p.qh⟩
theorem Qz.up (p : Qz lo hi X ev qv es qs) {hi' : Nat} (hh : hi ≤ hi') : Qz lo hi' X ev qv es qs:=⟨p.e.up hh,p.q.up hh,p.d,fun b hb => Nat.lt_of_lt_of_le (p.eh b hb) hh,fun b hb => Nat.lt_of_lt_of_le (p.qh b hb) hh⟩
theorem Qz.pushE (p : Qz lo hi A ev qv es qs) (hB : lo ≤ A.heap.size) (hh : hi ≤ A.heap.size) {c : Raw 4} {x : DEq} {s : List Nat} (hc : TEq A c.1 x s) (hs : ∀ b,b ∈ s → Sd lo hi A b) {eb : Nat} (hbx : BlkAt A eb 58 c.1.toArray) (hl : es.length ≤ 1000) :
  ∃ v' Z,(Builtin.append_ #[41,41] 41 #[ev,.slice (some ⟨eb,0,none⟩) 1 1]).run Tryz.prog A = .ok v' Z ∧ Qz lo Z.heap.size Z v' qv (es ++ [x]) qs ∧ A.grownBy Z ev.ownBlock:=by
 obtain ⟨v',Z,g1,g2,g3,g4⟩:=p.e.push TEq_fr eq_notS hB hc hs rfl hbx (show (es.length + 1) * 88 ≤ _ by omega) 41
 have hz:=g3.size
 exact ⟨v',Z,g1,⟨g2.up (by omega),(p.q.other TEq_fr eq_notS p.e g3 p.d).up (by omega),p.d.grown g4 (fun b hb => (p.q.blk b hb).2.1),fun b hb => (g2.blk b hb).2.1,fun b hb => by have:=p.qh b hb; omega⟩,g3⟩
end
end Go.Proofs.YtajabbnlbopcbaaGreatDoor
namespace Go.Proofs.YtajabbnlbopcbaaGreatDoor
open Go.RowKit
set_option linter.unusedSimpArgs false
set_option linter.unusedVariables false
set_option maxHeartbeats 1000000 in
theorem l1Longer_own (ks : List DCond) (u : Value) (nm : ByteArray) (on : Bool) (w : World) (hu : SlAt 2 24 RCond 0 w u ks) (hl : ks.length ≤ 1000) :
  Calls Tryz.prog 49 #[u,.string nm,.bool on] w fun e w' => ∃ a n c,e = .returned (.slice a n c) ∧ OwnV elCond w' w.heap.size (.slice a n c) (ks ++ [⟨nm,on⟩]) ∧ Below w.heap.size w w':=by
 have P0 : Below w.heap.size w (w.alloc (.cells #[] 86)):=(Below.refl _ _).alloc (Nat.le_refl _) _
 have HP0:=hide P0
 have HU:=hide (hu.stays RCond_kept P0)
 have HO:=hide (OwnV.start (E:=elCond) w w.heap.size (Nat.le_refl _))
 obtain ⟨a,cap,rfl⟩:=hu.shape
 clear hu P0
 go_enter Tryz.func49,Tryz.ntmps49
 go_wp2_with (at_builtin; go_must (refine wpList_append_allF elCond RCond_f _ rfl _ _ rfl w.heap.size w.heap.size 0 [] rfl (uh HO) _ rfl ks (uh HU) (by simp [elCond]; omega) (by simp) ?_))
 intro g1 cap1 w1 hown1 hgr1
 have hb1:=(uh HO).grown (uh HP0) hgr1 (by simp) (Nat.le_refl _)
 have hs1:=hb1.size
 have HB1:=hide hb1
 have hal : Below w1.heap.size w1 (w1.alloc (.cells #[.string nm,.bool on] 86)):=(Below.refl _ _).alloc (Nat.le_refl _) _
 have HO1:=hide (hown1.below hal)
 have HB2 : Hid (Below w.heap.size w (w1.alloc (.cells #[.string nm,.bool on] 86))):=hb1.trans (hal.mono hs1)
 clear hown1 hgr1 hb1 hal
 try simp only [List.length_nil,List.nil_append,Nat.zero_add] at HO1
 try simp only [List.length_nil,List.nil_append,Nat.zero_add]
 go_wp2_with (at_builtin; go_must (refine wpList_append_oneF elCond _ rfl _ _ rfl w.heap.size _ ks rfl (uh HO1) w1.heap.size ⟨nm,on⟩ rfl (fun j u hu => by rw [World.cell?_alloc_at _ _ _ _ rfl]; simpa [elCond] using hu) (by simp [elCond]; omega) (by simp; omega) ?_))
 intro v2 w2 hown2 hgr2
 have HB3:=hide ((uh HO1).grown (uh HB2) hgr2 (by simp; omega) (Nat.le_refl _))
 have HD:=hide hown2
 obtain ⟨a2,c2,rfl⟩:=hown2.slice
 clear hown2 hgr2
 go_wp2
 go_ret
 exact ⟨_,_,_,rfl,uh HD,uh HB3⟩
def Cps (lo : Nat) (w : World) (B : Nat) (X : World) (v : Value) (xs : List DVar) : Prop:=∃ css : List (Raw 3),OwnV rVar X B v css ∧ css.length = xs.length ∧ ∀ j (h1 : j < css.length) (h2 : j < xs.length),RVar lo w css[j].1 xs[j]
theorem Cps.slice {lo : Nat} {w X : World} {B : Nat} {v : Value} {xs : List DVar} (h : Cps lo w B X v xs) : ∃ a cap,v = .slice a xs.length cap:=by
 obtain ⟨css,h1,h2,_⟩:=h
 rw [← h2]
 exact h1.slice
theorem Cps.below {lo : Nat} {w X Y : World} {B : Nat} {v : Value} {xs : List DVar} (h : Cps lo w B X v xs) (hb : Below X.heap.size X Y) : Cps lo w B Y v xs:=by
 obtain ⟨css,h1,h2⟩:=h
 exact ⟨css,h1.below hb,h2⟩
theorem Cps.tr {lo cb : Nat} {w X Y : World} {B : Nat} {v : Value} {xs : List DVar} (h : Cps lo w B X v xs) (ht : Tr cb X Y) (hb : cb < B) : Cps lo w B Y v xs:=by
 obtain ⟨css,h1,h2⟩:=h
 exact ⟨css,h1.trk ht hb,h2⟩
theorem Cps.push {lo : Nat} {w A : World} {B : Nat} {v : Value} {xs : List DVar} (h : Cps lo w B A v xs) {c : Raw 3} {x : DVar} (hc : RVar lo w c.1 x) {eb : Nat} (hbx : BlkAt A eb 67 c.1.toArray) (hl : xs.length ≤ 1000) (hB : B ≤ A.heap.size) :
  ∃ v' Z,(Builtin.append_ #[40,40] 40 #[v,.slice (some ⟨eb,0,none⟩) 1 1]).run Tryz.prog A = .ok v' Z ∧ Cps lo w B Z v' (xs ++ [x]) ∧ A.grownBy Z v.ownBlock:=by
 obtain ⟨css,h1,h2,h3⟩:=h
 obtain ⟨v',Z,g1,g2,g3,_⟩:=run_append_one rVar A 40 B v css h1 eb c (fun j u hu => hbx.cell (by rw [List.getElem?_toArray]; exact hu)) (show (css.length + 1) * 48 ≤ _ by omega) hB
 refine ⟨v',Z,g1,⟨css ++ [c],g2,by simp [h2],fun j k1 k2 => ?_⟩,g3⟩
 by_cases hj : j < css.length
 ·rw [List.getElem_append_left hj,List.getElem_append_left (by omega)]
  exact h3 j hj (by omega)
 ·have e : j = css.length:=by simp at k1; omega
  subst e
  rw [List.getElem_append_right (Nat.le_refl _),List.getElem_append_right (by omega)]
  simpa [h2] using hc
theorem OwnV.rcell {sz : Nat} {E : ElF Tryz.prog (Raw sz)} (hE : E.sz = sz) (hf : ∀ c,E.f c = c.1) {X : World} {base : Nat} {v : Value} {css : List (Raw sz)} (h : OwnV E X base v css) {i : Nat} (hi : i < css.length) (hn : css.length * E.byt ≤ 140737488355328) : ∃ g cap,v = .slice (some ⟨g,0,none⟩) css.length cap ∧ base ≤ g ∧ css.length ≤ cap ∧ ∀ j u,css[i].1[j]? = some u → X.cell? ⟨g,i * sz + j,none⟩ = some u:=by
 obtain ⟨a,cap,hv,_,_,hx⟩:=h.at (R:=RRaw) (fun c _ => hf c) hn
 obtain ⟨b,o,cs,rfl,_,hb,hl,hc,hR⟩:=hx i hi
 rcases h.shape with ⟨_,h0⟩ | ⟨g,cap1,hv1,hg1,_,hg2⟩
 ·rw [h0] at hi
  exact absurd hi (by simp)
 rw [hv] at hv1
 simp only [Value.slice.injEq,Option.some.injEq,Addr.mk.injEq] at hv1
 obtain ⟨⟨rfl,rfl,_⟩,_,rfl⟩:=hv1
 refine ⟨b,cap,hv,hg1,hg2,fun j u hu => ?_⟩
 have e : cs = css[i].1:=hR
 subst e
 obtain ⟨hj,he⟩:=List.getElem?_eq_some_iff.1 hu
 have h9:=hc j hj
 rw [he,hE,Nat.zero_add] at h9
 exact h9
theorem Cps.cells {lo : Nat} {w X : World} {B : Nat} {v : Value} {xs : List DVar} (h : Cps lo w B X v xs) {i : Nat} (hi : i < xs.length) (hl : xs.length ≤ 1000) : ∃ g cap cl,v = .slice (some ⟨g,0,none⟩) xs.length cap ∧ X.cell? ⟨g,i * 3,none⟩ = some (.string xs[i].name) ∧ X.cell? ⟨g,i * 3 + 1,none⟩ = some (.int .i64 xs[i].type) ∧ X.cell? ⟨g,i * 3 + 2,none⟩ = some cl ∧ SlAt 2 24 RCond lo w cl xs[i].clock ∧ B ≤ g:=by
 obtain ⟨css,h1,h2,h3⟩:=h
 have hi2 : i < css.length:=by omega
 obtain ⟨cl,e,_,_,hcl⟩:=h3 i hi2 hi
 obtain ⟨g,cap,hv,hb,_,hcell⟩:=h1.rcell rfl (fun _ => rfl) hi2 (show css.length * 48 ≤ _ by omega)
 refine ⟨g,cap,cl,by rw [hv,h2],?_,?_,?_,hcl,hb⟩
 ·have:=hcell 0 _ (by rw [e]; rfl)
  simpa using this
 ·exact hcell 1 _ (by rw [e]; rfl)
 ·exact hcell 2 _ (by rw [e]; rfl)
end Go.Proofs.YtajabbnlbopcbaaGreatDoor
namespace Go.Proofs.YtajabbnlbopcbaaGreatDoor
open Go.RowKit
set_option linter.unusedSimpArgs false
set_option linter.unusedVariables false
section
variable {code : List Int} {W0 : World} {cb : Nat} {cv : Value} {w : World} {c : Cur} {vs : List DVar}
def ClAns (code : List Int) (W0 : World) (cb : Nat) (cv : Value) (w : World) (x : List DCond × Cur) (e : Ending) (w' : World) : Prop :=
 ∃ a n cap,e = .returned (.slice a n cap) ∧ OwnV elCond w' w.heap.size (.slice a n cap) x.1 ∧ n = x.1.length ∧ CuAt code W0 cb cv w' x.2 ∧ Tr cb w w'
def fiTo (vs : List DVar) (i : Nat) : List DVar:=(vs.take i).filter isB
theorem fiTo_step {vs : List DVar} {i : Nat} (h : i < vs.length) : fiTo vs (i + 1) = fiTo vs i ++ (if isB vs[i] then [vs[i]] else []):=by
 unfold fiTo
 rw [List.take_succ_eq_append_getElem h,List.filter_append]
 congr 1
 by_cases hb : isB vs[i] = true
 ·simp [hb]
 ·simp [hb]
theorem fiTo_len (vs : List DVar) (i : Nat) : (fiTo vs i).length ≤ i:=Nat.le_trans (List.length_filter_le _ _) (by rw [List.length_take]; omega)
theorem fiTo_all (vs : List DVar) : fiTo vs vs.length = vs.filter isB:=by unfold fiTo; rw [List.take_length]
theorem pick_longer {X : World} (h : CuAt code W0 cb cv X c) (hok : okB 1 c) {cl : Value} {clk : List DCond} (hcl : SlAt 2 24 RCond (cb + 1) X cl clk) (hl : clk.length ≤ 100) (nm : ByteArray) {bb : Nat} {ty : Int} (hbb : BlkAt X bb 67 #[.string nm,.int .i64 ty,cl]) (hne : bb ≠ cb) :
  Calls Tryz.prog 9 #[.pointer (some ⟨cb,0,none⟩),.int .i64 2] X (fun e Y => ∃ p : Nat,Hid (p = (pkF code 2 c).1) ∧ e = .returned (.int .i64 p) ∧ Y.cell? ⟨bb,0,none⟩ = some (.string nm) ∧ Y.cell? ⟨bb,2,none⟩ = some cl ∧ Hid (Calls Tryz.prog 49 #[cl,.string nm,.bool ((p : Int) == 0)] Y (fun e Z => ClAns code W0 cb cv X (clk ++ [⟨nm,decide (p = 0)⟩],(pkF code 2 c).2) e Z ∧ Z.cell? ⟨bb,0,none⟩ = some (.string nm) ∧ Z.cell? ⟨bb,2,none⟩ = some cl))):=by
 refine (pick_ok h 2 (by omega) hok).mono ?_
 rintro e Y ⟨rfl,hc,ht⟩
 have hb:=ht.blk hbb hne
 refine ⟨_,hide rfl,rfl,hb.cell (i:=0) rfl,hb.cell (i:=2) rfl,?_⟩
 have e9 : (((pkF code 2 c).1 : Int) == 0) = decide ((pkF code 2 c).1 = 0):=by
  cases h9 : decide ((pkF code 2 c).1 = 0)
  ·rw [beq_eq_false_iff_ne]
   have:=of_decide_eq_false h9
   omega
  ·rw [beq_iff_eq]
   have:=of_decide_eq_true h9
   omega
 rw [e9]
 refine (l1Longer_own clk cl nm _ Y ((hcl.kept RCond_kept (Kept.of_tr ht)).lower RCond_lowers (Nat.zero_le _)) (by omega)).mono ?_
 rintro e Z ⟨a,n,cap,rfl,ho,hbl⟩
 obtain ⟨a2,c2,hs⟩:=ho.slice
 simp only [Value.slice.injEq] at hs
 have hb2:=hb.below hbl hb.lt
 exact ⟨⟨a,n,cap,rfl,ho.low ht.size,hs.2.1,hc.below hbl,ht.trans (Tr.of_below hbl)⟩,hb2.cell (i:=0) rfl,hb2.cell (i:=2) rfl⟩
set_option maxHeartbeats 4000000 in
set_option maxRecDepth 8000 in
theorem clock_ok {sv : Value} (h : CuAt code W0 cb cv w c) (hs : SlAt 3 48 RVar (cb + 1) w sv vs) (hl : vs.length ≤ 100) (hv : vsOK vs) (hok : okB 3 c) :
  Calls Tryz.prog 31 #[.pointer (some ⟨cb,0,none⟩),sv] w (ClAns code W0 cb cv w (clF code vs c)):=by
 obtain ⟨sa,sc,rfl⟩:=hs.shape
 obtain ⟨A,hAA⟩ : ∃ A,A = w.alloc (.cells #[] 67):=⟨_,rfl⟩
 have hA : Below w.heap.size w A:=hAA ▸ (Below.refl _ _).alloc (Nat.le_refl _) _
 have HO0 : Hid (Cps (cb + 1) w w.heap.size A (.slice (some ⟨w.heap.size,0,none⟩) 0 0) []):=hAA ▸ ⟨[],OwnV.start (E:=rVar) w w.heap.size (Nat.le_refl _),rfl,fun j h1 => absurd h1 (Nat.not_lt_zero _)⟩
 have HS:=hide hs
 have HA:=hide hA
 have HH:=hide h
 have HV:=hide hv
 have HOK:=hide hok
 have HAA:=hide hAA
 obtain ⟨PO,hPO⟩ : ∃ PO : Ending → World → Prop,PO = ClAns code W0 cb cv w (clF code vs c):=⟨_,rfl⟩
 rw [← hPO]
 have HPO:=hide hPO
 clear hs h hv hok hA hPO hAA
 go_enter Tryz.func31,Tryz.ntmps31
 go_wp2
 rw [← uh HAA]
 go_loopg [5,12] vs.length (fun g v x wr => ∃ (i : Nat),i ≤ vs.length ∧ g = vs.length - i ∧ x = .int .i64 i ∧ Cps (cb + 1) w w.heap.size wr v (fiTo vs i) ∧ Below w.heap.size w wr)
 case atStart => exact ⟨0,Nat.zero_le _,rfl,rfl,uh HO0,uh HA⟩
 case round =>
  obtain ⟨i,hi,hg,rfl,hown,hbl⟩:=hrel
  have HG:=hide hg
  have HO:=hide hown
  have HB:=hide hbl
  obtain ⟨va,vc,hvv⟩:=hown.slice
  have hln:=fiTo_len vs i
  subst hvv
  clear hg hown hbl
  by_cases hlt : i < vs.length
  ·obtain ⟨a9,c9,he9,_,_,hx⟩:=uh HS
   simp only [Value.slice.injEq] at he9
   obtain ⟨rfl,_,rfl⟩:=he9
   obtain ⟨b,o,cs,rfl,_,hb,hcs,hc,hR⟩:=hx i hlt
   have HRV : Hid (RVar (cb + 1) w cs vs[i]):=hR
   obtain ⟨cl,rfl,hn1,hn2,hcl⟩:=hR
   have c0:=((uh HB).cell (p:=⟨b,o + i * 3 + 0,none⟩) hb).trans (hc 0 (by simp))
   have c1:=((uh HB).cell (p:=⟨b,o + i * 3 + 1,none⟩) hb).trans (hc 1 (by simp))
   have c2:=((uh HB).cell (p:=⟨b,o + i * 3 + 2,none⟩) hb).trans (hc 2 (by simp))
   simp only [Nat.add_zero,List.getElem_cons_zero,List.getElem_cons_succ] at c0 c1 c2
   obtain ⟨la,lc,rfl⟩:=hcl.shape
   have HNX:=hide (fiTo_step hlt)
   generalize hu : vs[i] = u at *
   obtain ⟨nm,ty,clk⟩:=u
   simp only at *
   obtain ⟨B,hBB⟩ : ∃ B,B = wr.alloc (.cells #[.string nm,.int .i64 ty,.slice la clk.length lc] 67):=⟨_,rfl⟩
   have hB : Below wr.heap.size wr B:=hBB ▸ (Below.refl _ _).alloc (Nat.le_refl _) _
   have hbv : BlkAt B wr.heap.size 67 #[.string nm,.int .i64 ty,.slice la clk.length lc]:=hBB ▸ blk_box wr _ _
   have b0:=hbv.cell (i:=0) (v:=.string nm) rfl
   have b1:=hbv.cell (i:=1) (v:=.int .i64 ty) rfl
   have b2:=hbv.cell (i:=2) (v:=.slice la clk.length lc) rfl
   have HOB:=hide ((uh HO).below hB)
   have HBB:=hide ((uh HB).trans (hB.mono (uh HB).size))
   have HB9:=hide hBB
   rw [hBB] at b0 b1 b2
   clear hc hcs hu hx hcl hbv hB hBB
   by_cases g1 : isB ⟨nm,ty,clk⟩ = true
   case neg =>
    have HN2 : Hid (fiTo vs (i + 1) = fiTo vs i):=by
     show _ = _
     rw [uh HNX]
     simp [g1]
    have hcs : (ty == 2) = false ∨ ((ty == 2) = true ∧ decide ((clk.length : Int) < 3) = false ∧ ¬ clk.length < 3):=by
     unfold isB at g1
     simp only [Bool.and_eq_true,decide_eq_true_eq,not_and] at g1
     by_cases g2 : ty = 2
     ·right
      have:=g1 g2
      exact ⟨by rw [g2]; rfl,by simp; omega,this⟩
     ·left
      rw [beq_eq_false_iff_ne]
      exact g2
    clear g1
    rcases hcs with d1 | ⟨d1,d2,d3⟩
    all_goals
     go_wp2
     go_roundg (vs.length - (i + 1))
     case measure => have:=uh HG; omega
     case rel =>
      rw [← uh HB9]
      exact ⟨i + 1,by omega,rfl,by go_num,by rw [uh HN2]; exact uh HOB,uh HBB⟩
   case pos =>
    have HN2 : Hid (fiTo vs (i + 1) = fiTo vs i ++ [⟨nm,ty,clk⟩]):=by
     show _ = _
     rw [uh HNX]
     simp [g1]
    obtain ⟨d1,d2,d3⟩ : (ty == 2) = true ∧ decide ((clk.length : Int) < 3) = true ∧ clk.length < 3:=by
     unfold isB at g1
     simp only [Bool.and_eq_true,decide_eq_true_eq] at g1
     exact ⟨by rw [g1.1]; rfl,by simp; omega,g1.2⟩
    obtain ⟨D,hDD⟩ : ∃ D,D = B.alloc (.cells #[.string nm,.int .i64 ty,.slice la clk.length lc] 67):=⟨_,rfl⟩
    have hD : Below B.heap.size B D:=hDD ▸ (Below.refl _ _).alloc (Nat.le_refl _) _
    have hBz : B.heap.size = wr.heap.size + 1:=by rw [uh HB9]; simp
    have hbd : BlkAt D B.heap.size 67 #[.string nm,.int .i64 ty,.slice la clk.length lc]:=hDD ▸ blk_box B _ _
    rw [hBz] at hbd
    have hwz:=(uh HB).size
    have hwB : w.heap.size ≤ B.heap.size:=(uh HBB).size
    obtain ⟨v',Z,hrun,hcp,hgr⟩:=((uh HOB).below hD).push (c:=rawVar nm ty la clk.length lc) (x:=⟨nm,ty,clk⟩) (uh HRV) (eb:=wr.heap.size + 1) hbd (by omega) (Nat.le_trans hwB hD.size)
    have HBZ : Hid (Below w.heap.size w Z):=((uh HBB).trans (hD.mono hwB)).grown hgr (Nat.le_trans hwB hD.size) (fun k e => by
     obtain ⟨css,ho,_⟩:=(uh HO)
     exact ho.block k e)
    obtain ⟨a7,c7,rfl⟩:=hcp.slice
    have HCP:=hide hcp
    rw [hDD,(uh HB9)] at hrun
    have HRUN:=hide hrun
    clear g1 hDD hD hbd hrun hcp hgr hBz
    go_wp2_with (at_builtin; go_must (refine wpList_append_run rfl _ _ 40 40 rfl rfl _ _ _ rfl rfl (uh HRUN) ?_))
    go_roundg (vs.length - (i + 1))
    case measure => have:=uh HG; omega
    case rel =>
     refine ⟨i + 1,by omega,rfl,by go_num,?_,uh HBZ⟩
     have h9:=uh HCP
     rw [List.length_append] at h9
     rw [uh HN2]
     exact h9
  ·have e : i = vs.length:=by omega
   subst e
   rw [fiTo_all] at HO hln ⊢
   clear HO0 HG
   by_cases h0 : (vs.filter isB).length = 0
   ·have e9 : clF code vs c = ([],c):=by unfold clF; rw [if_pos h0]
    rw [e9] at HPO
    have HF : Hid (PO (.returned (.slice none 0 0)) wr):=by
     show PO _ _
     rw [uh HPO]
     exact ⟨none,0,0,rfl,OwnV.nil _ _,rfl,(uh HH).below (uh HB),Tr.of_below (uh HB)⟩
    rw [h0]
    clear h0 e9
    go_wp2
    first | go_ret | skip
    exact uh HF
   ·have HP:=hide (pick_ok ((uh HH).below (uh HB)) 3 (by omega) ((uh HOK).less (by omega)))
    have hokp:=pkF_ok (code:=code) (m:=3) (uh HOK)
    have h3:=pkF_lt code (m:=3) c (by omega)
    have e9 : clF code vs c = if (pkF code 3 c).1 = 2 then ([],(pkF code 3 c).2) else (((vs.filter isB).getD (pkF code (vs.filter isB).length (pkF code 3 c).2).1 dV).clock ++ [⟨((vs.filter isB).getD (pkF code (vs.filter isB).length (pkF code 3 c).2).1 dV).name,decide ((pkF code 2 (pkF code (vs.filter isB).length (pkF code 3 c).2).2).1 = 0)⟩],(pkF code 2 (pkF code (vs.filter isB).length (pkF code 3 c).2).2).2):=by unfold clF; rw [if_neg h0]
    rw [e9] at HPO
    clear e9
    generalize pkF code 3 c = P at *
    obtain ⟨p3,c3⟩:=P
    replace HP : Hid (Calls Tryz.prog 9 #[.pointer (some ⟨cb,0,none⟩),.int .i64 3] wr (CuAns code W0 cb cv wr (.int .i64 p3) c3)):=HP
    replace HPO : Hid (PO = ClAns code W0 cb cv w (if p3 = 2 then ([],c3) else (((vs.filter isB).getD (pkF code (vs.filter isB).length c3).1 dV).clock ++ [⟨((vs.filter isB).getD (pkF code (vs.filter isB).length c3).1 dV).name,decide ((pkF code 2 (pkF code (vs.filter isB).length c3).2).1 = 0)⟩],(pkF code 2 (pkF code (vs.filter isB).length c3).2).2))):=HPO
    have HOK3 : Hid (okB 2 c3):=hokp
    replace h3 : p3 < 3:=h3
    have hm : vsOK (vs.filter isB):=fun v hv => uh HV v (List.mem_filter.1 hv).1
    have HM:=hide hm
    generalize vs.filter isB = bs at *
    have dn0 : ((bs.length : Int) == 0) = false:=by rw [beq_eq_false_iff_ne]; omega
    clear hokp hm
    go_wp2_with fail
    refine (uh HP).mono ?_
    rintro e w1 ⟨rfl,hc1,ht1⟩
    by_cases hp : p3 = 2
    ·rw [if_pos hp] at HPO
     have HF : Hid (PO (.returned (.slice none 0 0)) w1):=by
      show PO _ _
      rw [uh HPO]
      exact ⟨none,0,0,rfl,OwnV.nil _ _,rfl,hc1,(Tr.of_below (uh HB)).trans ht1⟩
     have d2 : ((p3 : Int) == 2) = true:=by rw [beq_iff_eq]; omega
     clear hc1 ht1 hp h3
     go_wp2
     first | go_ret | skip
     exact uh HF
    ·rw [if_neg hp] at HPO
     have d2 : ((p3 : Int) == 2) = false:=by rw [beq_eq_false_iff_ne]; omega
     have hcw : cb < w.heap.size:=(uh HH).blk.lt
     have HO1:=hide ((uh HO).tr ht1 hcw)
     have HT1:=hide ((Tr.of_below (r:=cb) (uh HB)).trans ht1)
     have HP2:=hide (pick_ok hc1 bs.length (by omega) ((uh HOK3).less (by omega)))
     have hlt2:=pkF_lt code (m:=bs.length) c3 (by omega)
     have hok5 : okB 1 (pkF code bs.length c3).2:=pkF_ok (uh HOK3)
     generalize pkF code bs.length c3 = Q at *
     obtain ⟨q,c5⟩:=Q
     replace HP2 : Hid (Calls Tryz.prog 9 #[.pointer (some ⟨cb,0,none⟩),.int .i64 bs.length] w1 (CuAns code W0 cb cv w1 (.int .i64 q) c5)):=HP2
     replace hlt2 : q < bs.length:=hlt2
     have HOK5 : Hid (okB 1 c5):=hok5
     replace HPO : Hid (PO = ClAns code W0 cb cv w ((bs.getD q dV).clock ++ [⟨(bs.getD q dV).name,decide ((pkF code 2 c5).1 = 0)⟩],(pkF code 2 c5).2)):=HPO
     have e9 : bs.getD q dV = bs[q]:=by rw [List.getD_eq_getElem?_getD,List.getElem?_eq_getElem hlt2]; rfl
     rw [e9] at HPO
     have hqI : (q : Int) < (bs.length : Int):=by omega
     clear hc1 ht1 hp h3 hok5 e9 HO HP
     go_wp2_with fail
     refine (uh HP2).mono ?_
     rintro e w2 ⟨rfl,hc2,ht2⟩
     obtain ⟨g,cap,cl,hv,k0,k1,k2,hcl,hgB⟩:=((uh HO1).tr ht2 hcw).cells hlt2 (by omega)
     simp only [Value.slice.injEq] at hv
     obtain ⟨rfl,_,rfl⟩:=hv
     obtain ⟨la,lc,rfl⟩:=hcl.shape
     have hkl : bs[q].clock.length ≤ 8:=(uh HM _ (List.getElem_mem hlt2)).2.2.1
     generalize bs[q] = bq at *
     obtain ⟨nm,ty,clk⟩:=bq
     simp only at k0 k1 k2 hcl hkl
     replace HPO : Hid (PO = ClAns code W0 cb cv w (clk ++ [⟨nm,decide ((pkF code 2 c5).1 = 0)⟩],(pkF code 2 c5).2)):=HPO
     obtain ⟨D,hDD⟩ : ∃ D,D = w2.alloc (.cells #[.string nm,.int .i64 ty,.slice la clk.length lc] 67):=⟨_,rfl⟩
     have hD : Below w2.heap.size w2 D:=hDD ▸ (Below.refl _ _).alloc (Nat.le_refl _) _
     have hbd : BlkAt D w2.heap.size 67 #[.string nm,.int .i64 ty,.slice la clk.length lc]:=hDD ▸ blk_box w2 _ _
     have hdr : Below D.heap.size D D.drew:=(Below.refl _ _).drew
     have hTD : Tr cb w D.drew:=(((uh HT1).trans ht2).trans (Tr.of_below hD)).trans (Tr.of_below hdr)
     have hne : w2.heap.size ≠ cb:=by have:=hc2.blk.lt; omega
     have HPL : Hid (∀ Y,Y = D.drew → Calls Tryz.prog 9 #[.pointer (some ⟨cb,0,none⟩),.int .i64 2] Y _):=hide (fun Y hY => by subst hY; exact pick_longer ((hc2.below hD).below hdr) (uh HOK5) (hcl.kept RCond_kept (Kept.of_tr hTD)) (by omega) nm (hbd.below hdr hbd.lt) hne)
     have HTD:=hide hTD
     have i0:=hbd.cell (i:=0) (v:=.string nm) rfl
     have i2:=hbd.cell (i:=2) (v:=.slice la clk.length lc) rfl
     have HDD:=hide hDD
     rw [hDD] at i0 i2
     clear hc2 ht2 hD hbd hdr hTD hcl hDD HP2 HO1 HT1
     go_wp2_with fail
     rw [← uh HDD] at i0 i2 ⊢
     go_region_held3 (fun w' => w'.cell? ⟨w2.heap.size,0,none⟩ = some (.string nm) ∧ w'.cell? ⟨w2.heap.size,2,none⟩ = some (.slice la clk.length lc)) (go_keep) (first | (go_at_call 9; refine (uh HPL _ rfl).mono ?_; rintro e w5 ⟨p,hp,rfl,o0,o2,HLG⟩) | (go_at_call 49; refine (uh HLG).mono ?_; rintro e w6 ⟨h6,o4,o5⟩; have HF6:=hide h6; obtain ⟨a6,n6,c6,rfl,h7⟩:=h6; clear h7))
     have HF : Hid (PO (.returned (.slice a6 n6 c6)) w6):=by
      show PO _ _
      rw [uh HPO,← uh hp]
      obtain ⟨a,n,cap,h1,h2,h3,h4,h5⟩:=uh HF6
      exact ⟨a,n,cap,h1,h2.low (uh HTD).size,h3,h4,(uh HTD).trans h5⟩
     go_wp2
     first | go_ret | skip
     exact uh HF
end
end Go.Proofs.YtajabbnlbopcbaaGreatDoor
