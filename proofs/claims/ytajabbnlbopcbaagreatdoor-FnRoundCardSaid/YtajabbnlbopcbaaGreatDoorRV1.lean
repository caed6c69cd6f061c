import Derived.Test.YtajabbnlbopcbaaGreatDoorPF3
import Derived.Test.YtajabbnlbopcbaaGreatDoorTI1
namespace Go.Proofs.YtajabbnlbopcbaaGreatDoor
open Go.RowKit
set_option linter.unusedSimpArgs false
set_option linter.unusedVariables false
abbrev Raw (sz : Nat):={ cs : List Value // cs.length = sz ∧ ∀ u,u ∈ cs → u.oneCell' = true }
def elRaw (T ST sz byt : Nat) (z : Value) (hT : Tryz.prog.underlying ST = some (.slice T)) (hi : (Tryz.prog.info? T).map (fun i => (i.zero,i.size,i.bytes)) = some (some z,sz,byt)) (hz : z.cells.size = sz) (hsz : 0 < sz) (hby : 0 < byt) : ElF Tryz.prog (Raw sz) where
 T:=T
 ST:=ST
 sz:=sz
 byt:=byt
 f:=fun c => c.1
 z:=z
 hT:=hT
 hi:=hi
 hz:=hz
 hf:=fun c => c.2.1
 h1:=fun c => c.2.2
 hsz:=hsz
 hby:=hby
def rItems : ElF Tryz.prog (Raw 1):=elRaw 55 56 1 24 (.slice none 0 0) Tryz.underlying56 (by kernel_rfl) rfl (by decide) (by decide)
def rVar : ElF Tryz.prog (Raw 3):=elRaw 67 40 3 48 (.agg #[.string ByteArray.empty,.int .i64 0,.slice none 0 0]) Tryz.underlying40 (by kernel_rfl) rfl (by decide) (by decide)
def rEq : ElF Tryz.prog (Raw 4):=elRaw 58 41 4 88 (.agg #[.slice none 0 0,.slice none 0 0,.string ByteArray.empty,.slice none 0 0]) Tryz.underlying41 (by kernel_rfl) rfl (by decide) (by decide)
def rNode : ElF Tryz.prog (Raw 5):=elRaw 43 23 5 112 (.agg #[.string ByteArray.empty,.slice none 0 0,.slice none 0 0,.slice none 0 0,.slice none 0 0]) Tryz.underlying23 (by kernel_rfl) rfl (by decide) (by decide)
def blkOf (v : Value) : List Nat:=v.ownBlock.toList
theorem mem_blkOf {v : Value} {b : Nat} : b ∈ blkOf v ↔ v.ownBlock = some b:=by
 unfold blkOf
 rw [Option.mem_toList]
def All3 {α β γ : Type} (R : α → β → γ → Prop) : List α → List β → List γ → Prop
 | [],[],[] => True
 | a :: la,b :: lb,c :: lc => R a b c ∧ All3 R la lb lc
 | _,_,_ => False
theorem All3.nil {α β γ : Type} {R : α → β → γ → Prop} : All3 R [] [] []:=trivial
theorem All3.cons {α β γ : Type} {R : α → β → γ → Prop} {a : α} {b : β} {c : γ} {la : List α} {lb : List β} {lc : List γ} (h : R a b c) (k : All3 R la lb lc) : All3 R (a :: la) (b :: lb) (c :: lc):=⟨h,k⟩
theorem All3.ind {α β γ : Type} {R : α → β → γ → Prop} {motive : ∀ la lb lc,All3 R la lb lc → Prop} (nil : motive [] [] [] All3.nil) (cons : ∀ {a b c la lb lc} (h : R a b c) (k : All3 R la lb lc),motive la lb lc k → motive (a :: la) (b :: lb) (c :: lc) (All3.cons h k)) : ∀ {la lb lc} (t : All3 R la lb lc),motive la lb lc t
 | [],[],[],_ => nil
 | _ :: _,_ :: _,_ :: _,t => cons t.1 t.2 (All3.ind nil cons t.2)
theorem All3.len {α β γ : Type} {R : α → β → γ → Prop} {la : List α} {lb : List β} {lc : List γ} (h : All3 R la lb lc) : la.length = lb.length ∧ lc.length = lb.length:=by
 induction h using All3.ind with
 | nil => exact ⟨rfl,rfl⟩
 | cons _ _ ih => exact ⟨by simp [ih.1],by simp [ih.2]⟩
theorem All3.app {α β γ : Type} {R : α → β → γ → Prop} {la la' : List α} {lb lb' : List β} {lc lc' : List γ} (h : All3 R la lb lc) (k : All3 R la' lb' lc') : All3 R (la ++ la') (lb ++ lb') (lc ++ lc'):=by
 induction h using All3.ind with
 | nil => exact k
 | cons h _ ih => exact .cons h ih
theorem All3.get {α β γ : Type} {R : α → β → γ → Prop} {la : List α} {lb : List β} {lc : List γ} (h : All3 R la lb lc) : ∀ i (h1 : i < la.length) (h2 : i < lb.length) (h3 : i < lc.length),R la[i] lb[i] lc[i]:=by
 induction h using All3.ind with
 | nil => intro i h1; exact absurd h1 (Nat.not_lt_zero _)
 | cons h _ ih =>
  intro i h1 h2 h3
  cases i with
  | zero => exact h
  | succ i => exact ih i (by simpa using h1) (by simpa using h2) (by simpa using h3)
theorem All3.mono {α β γ : Type} {R S : α → β → γ → Prop} {la : List α} {lb : List β} {lc : List γ} (h : All3 R la lb lc) (k : ∀ a b c,a ∈ la → b ∈ lb → c ∈ lc → R a b c → S a b c) : All3 S la lb lc:=by
 induction h using All3.ind with
 | nil => exact .nil
 | cons h _ ih => exact .cons (k _ _ _ (List.mem_cons_self ..) (List.mem_cons_self ..) (List.mem_cons_self ..) h) (ih fun a b c h1 h2 h3 h4 => k a b c (List.mem_cons_of_mem _ h1) (List.mem_cons_of_mem _ h2) (List.mem_cons_of_mem _ h3) h4)
theorem OwnV.low {P : Program} {α : Type} {E : ElF P α} {w : World} {b1 : Nat} {v : Value} {xs : List α} (h : OwnV E w b1 v xs) {b2 : Nat} (hb : b2 ≤ b1) : OwnV E w b2 v xs:=by
 obtain ⟨h1,h2⟩:=h
 refine ⟨h1,?_⟩
 rcases h2 with h2 | ⟨g,cap,cur,hv,hg,r⟩
 ·exact Or.inl h2
 ·exact Or.inr ⟨g,cap,cur,hv,Nat.le_trans hb hg,r⟩
def Fr (bs : List Nat) (w w' : World) : Prop:=∀ b,b ∈ bs → w'.heap[b]? = w.heap[b]?
theorem Fr.left {bs bs' : List Nat} {w w' : World} (h : Fr (bs ++ bs') w w') : Fr bs w w':=fun b hb => h b (List.mem_append_left _ hb)
theorem Fr.right {bs bs' : List Nat} {w w' : World} (h : Fr (bs ++ bs') w w') : Fr bs' w w':=fun b hb => h b (List.mem_append_right _ hb)
def RowD {α : Type} (E : ElF Tryz.prog α) (ok : α → Prop) (w : World) (v : Value) (xs : List α) (bs : List Nat) : Prop:=OwnV E w 0 v xs ∧ (∀ x,x ∈ xs → ok x) ∧ xs.length * E.byt ≤ 140737488355328 ∧ bs = blkOf v
theorem RowD.fr {α : Type} {E : ElF Tryz.prog α} {ok : α → Prop} {w w' : World} {v : Value} {xs : List α} {bs : List Nat} (h : RowD E ok w v xs bs) (hf : Fr bs w w') : RowD E ok w' v xs bs:=by
 obtain ⟨h1,h2,h3,rfl⟩:=h
 exact ⟨h1.ofBlock (fun b hb => hf b (mem_blkOf.2 hb)),h2,h3,rfl⟩
theorem RowD.sl {α : Type} {E : ElF Tryz.prog α} {ok : α → Prop} {R : Nat → World → List Value → α → Prop} {w : World} {v : Value} {xs : List α} {bs : List Nat} (h : RowD E ok w v xs bs) (hR : ∀ x,ok x → R 0 w (E.f x) x) : SlAt E.sz E.byt R 0 w v xs:=h.1.at (fun x hx => hR x (h.2.1 x hx)) h.2.2.1
def RowT {α : Type} {sz : Nat} (E : ElF Tryz.prog (Raw sz)) (R : World → List Value → α → List Nat → Prop) (w : World) (v : Value) (xs : List α) (bs : List Nat) : Prop :=
 ∃ (css : List (Raw sz)) (subs : List (List Nat)),OwnV E w 0 v css ∧ css.length * E.byt ≤ 140737488355328 ∧ All3 (fun c x s => R w c.1 x s) css xs subs ∧ bs = blkOf v ++ subs.flatten
def FrBy {α : Type} (R : World → List Value → α → List Nat → Prop) : Prop:=∀ w w' cs x bs,R w cs x bs → Fr bs w w' → R w' cs x bs
theorem RowT.fr {α : Type} {sz : Nat} {E : ElF Tryz.prog (Raw sz)} {R : World → List Value → α → List Nat → Prop} (hR : FrBy R) {w w' : World} {v : Value} {xs : List α} {bs : List Nat} (h : RowT E R w v xs bs) (hf : Fr bs w w') : RowT E R w' v xs bs:=by
 obtain ⟨css,subs,h1,h2,h3,rfl⟩:=h
 refine ⟨css,subs,h1.ofBlock (fun b hb => hf b (List.mem_append_left _ (mem_blkOf.2 hb))),h2,h3.mono (fun c x s _ _ hs h9 => hR _ _ _ _ _ h9 (fun b hb => hf b (List.mem_append_right _ (List.mem_flatten.2 ⟨s,hs,hb⟩)))),rfl⟩
def RRaw {sz : Nat} (_ : Nat) (_ : World) (cs : List Value) (c : Raw sz) : Prop:=cs = c.1
theorem SlAt.ofRaw {α : Type} {sz byt lo : Nat} {R : Nat → World → List Value → α → Prop} {w : World} {v : Value} {css : List (Raw sz)} {xs : List α} (h : SlAt sz byt RRaw lo w v css) (hl : css.length = xs.length) (hR : ∀ i (h1 : i < css.length) (h2 : i < xs.length),R lo w css[i].1 xs[i]) : SlAt sz byt R lo w v xs:=by
 obtain ⟨a,cap,rfl,h1,h2,h3⟩:=h
 rw [hl] at h1 h2
 refine ⟨a,cap,by rw [hl],h1,h2,fun i hi => ?_⟩
 obtain ⟨b,o,cs,e1,e2,e3,e4,e5,e6⟩:=h3 i (by omega)
 have e7 : cs = css[i].1:=e6
 exact ⟨b,o,cs,e1,e2,e3,e4,e5,by rw [e7]; exact hR i (by omega) hi⟩
theorem RowT.sl {α : Type} {sz : Nat} {E : ElF Tryz.prog (Raw sz)} {R : World → List Value → α → List Nat → Prop} {S : Nat → World → List Value → α → Prop} (hE : E.sz = sz) (hf : ∀ c,E.f c = c.1) {w : World} (hS : ∀ cs x bs,R w cs x bs → S 0 w cs x) {v : Value} {xs : List α} {bs : List Nat} (h : RowT E R w v xs bs) : SlAt sz E.byt S 0 w v xs:=by
 obtain ⟨css,subs,h1,h2,h3,rfl⟩:=h
 have h9 : SlAt E.sz E.byt RRaw 0 w v css:=h1.at (fun c _ => hf c) h2
 rw [hE] at h9
 have hl:=h3.len
 exact h9.ofRaw hl.1 (fun i g1 g2 => hS _ _ _ (h3.get i g1 g2 (by omega)))
def okS (s : ByteArray) : Prop:=Len s.size
def okC (c : DCond) : Prop:=Len c.name.size
def okI (t : DItem) : Prop:=Len t.name.size ∧ I64 t.op ∧ I64 t.val
def TItems (w : World) (cs : List Value) (l : List DItem) (bs : List Nat) : Prop:=∃ v,cs = [v] ∧ RowD elItem okI w v l bs
def TVar (w : World) (cs : List Value) (x : DVar) (bs : List Nat) : Prop:=∃ v,cs = [.string x.name,.int .i64 x.type,v] ∧ Len x.name.size ∧ I64 x.type ∧ RowD elCond okC w v x.clock bs
def TEq (w : World) (cs : List Value) (x : DEq) (bs : List Nat) : Prop:=∃ l c a b1 b2 b3,cs = [l,c,.string x.call,a] ∧ Len x.call.size ∧ RowD elStr okS w l x.lhs b1 ∧ RowD elItem okI w c x.code b2 ∧ RowT rItems TItems w a x.args b3 ∧ bs = b1 ++ b2 ++ b3
def TNode (w : World) (cs : List Value) (x : DNode) (bs : List Nat) : Prop:=∃ v1 v2 v3 v4 b1 b2 b3 b4,cs = [.string x.name,v1,v2,v3,v4] ∧ Len x.name.size ∧ RowT rVar TVar w v1 x.ins b1 ∧ RowT rVar TVar w v2 x.outs b2 ∧ RowT rVar TVar w v3 x.vars b3 ∧ RowT rEq TEq w v4 x.eqs b4 ∧ bs = b1 ++ b2 ++ b3 ++ b4
theorem TItems_fr : FrBy TItems:=fun _ _ _ _ _ ⟨v,h1,h2⟩ hf => ⟨v,h1,h2.fr hf⟩
theorem TVar_fr : FrBy TVar:=fun _ _ _ _ _ ⟨v,h1,h2,h3,h4⟩ hf => ⟨v,h1,h2,h3,h4.fr hf⟩
theorem TEq_fr : FrBy TEq:=fun _ _ _ _ _ ⟨l,c,a,b1,b2,b3,h1,h2,h3,h4,h5,h6⟩ hf => by
 subst h6
 exact ⟨l,c,a,b1,b2,b3,h1,h2,h3.fr hf.left.left,h4.fr hf.left.right,h5.fr TItems_fr hf.right,rfl⟩
theorem TNode_fr : FrBy TNode:=fun _ _ _ _ _ ⟨v1,v2,v3,v4,b1,b2,b3,b4,h0,hn,h1,h2,h3,h4,h8⟩ hf => by
 subst h8
 exact ⟨v1,v2,v3,v4,b1,b2,b3,b4,h0,hn,h1.fr TVar_fr hf.left.left.left,h2.fr TVar_fr hf.left.left.right,h3.fr TVar_fr hf.left.right,h4.fr TEq_fr hf.right,rfl⟩
theorem TItems_sl {w : World} {cs : List Value} {l : List DItem} {bs : List Nat} (h : TItems w cs l bs) : RItems 0 w cs l:=by
 obtain ⟨v,h1,h2⟩:=h
 exact ⟨v,h1,h2.sl (fun x hx => ⟨rfl,hx.1,hx.2.1,hx.2.2⟩)⟩
theorem TVar_sl {w : World} {cs : List Value} {x : DVar} {bs : List Nat} (h : TVar w cs x bs) : RVar 0 w cs x:=by
 obtain ⟨v,h1,h2,h3,h4⟩:=h
 exact ⟨v,h1,h2,h3,h4.sl (fun x hx => ⟨rfl,hx⟩)⟩
theorem TEq_sl {w : World} {cs : List Value} {x : DEq} {bs : List Nat} (h : TEq w cs x bs) : REq 0 w cs x:=by
 obtain ⟨l,c,a,b1,b2,b3,h1,h2,h3,h4,h5,h6⟩:=h
 exact ⟨l,c,a,h1,h2,h3.sl (fun x hx => ⟨rfl,hx⟩),h4.sl (fun x hx => ⟨rfl,hx.1,hx.2.1,hx.2.2⟩),h5.sl rfl (fun _ => rfl) (fun cs x bs h => TItems_sl h)⟩
theorem TNode_sl {w : World} {cs : List Value} {x : DNode} {bs : List Nat} (h : TNode w cs x bs) : RNode 0 w cs x:=by
 obtain ⟨v1,v2,v3,v4,b1,b2,b3,b4,h0,hn,h1,h2,h3,h4,h8⟩:=h
 exact ⟨v1,v2,v3,v4,h0,hn,h1.sl rfl (fun _ => rfl) (fun cs x bs h => TVar_sl h),h2.sl rfl (fun _ => rfl) (fun cs x bs h => TVar_sl h),h3.sl rfl (fun _ => rfl) (fun cs x bs h => TVar_sl h),h4.sl rfl (fun _ => rfl) (fun cs x bs h => TEq_sl h)⟩
def Fin (Q : World → List Nat → Prop) (lo hi : Nat) (w : World) : Prop:=∃ bs,Q w bs ∧ bs.Nodup ∧ ∀ b,b ∈ bs → lo ≤ b ∧ b < hi
def FrQ (Q : World → List Nat → Prop) : Prop:=∀ w w' bs,Q w bs → Fr bs w w' → Q w' bs
theorem Fin.keep {Q : World → List Nat → Prop} (hQ : FrQ Q) {lo hi : Nat} {w w' : World} (h : Fin Q lo hi w) (hk : ∀ b,lo ≤ b → b < hi → w'.heap[b]? = w.heap[b]?) : Fin Q lo hi w':=by
 obtain ⟨bs,h1,h2,h3⟩:=h
 exact ⟨bs,hQ _ _ _ h1 (fun b hb => hk b (h3 b hb).1 (h3 b hb).2),h2,h3⟩
theorem Fin.wide {Q : World → List Nat → Prop} {lo hi lo' hi' : Nat} {w : World} (h : Fin Q lo hi w) (h1 : lo' ≤ lo) (h2 : hi ≤ hi') : Fin Q lo' hi' w:=by
 obtain ⟨bs,q1,q2,q3⟩:=h
 exact ⟨bs,q1,q2,fun b hb => ⟨Nat.le_trans h1 (q3 b hb).1,Nat.lt_of_lt_of_le (q3 b hb).2 h2⟩⟩
theorem nd_app {a b : List Nat} {lo m hi : Nat} (h1 : a.Nodup) (h2 : b.Nodup) (h3 : ∀ x,x ∈ a → lo ≤ x ∧ x < m) (h4 : ∀ x,x ∈ b → m ≤ x ∧ x < hi) (hl : lo ≤ m) (hh : m ≤ hi) : (a ++ b).Nodup ∧ ∀ x,x ∈ a ++ b → lo ≤ x ∧ x < hi:=by
 refine ⟨?_,fun x hx => ?_⟩
 ·rw [List.nodup_append]
  refine ⟨h1,h2,fun x g1 y g2 e => ?_⟩
  subst e
  have:=h3 x g1
  have:=h4 x g2
  omega
 ·rcases List.mem_append.1 hx with g | g
  ·have:=h3 x g
   omega
  ·have:=h4 x g
   omega
theorem FrQ.t {α : Type} {sz : Nat} (E : ElF Tryz.prog (Raw sz)) {R : World → List Value → α → List Nat → Prop} (hR : FrBy R) (v : Value) (xs : List α) : FrQ (fun w bs => RowT E R w v xs bs):=fun _ _ _ h hf => h.fr hR hf
theorem OwnV.fin {α : Type} {E : ElF Tryz.prog α} {ok : α → Prop} {w : World} {B : Nat} {v : Value} {xs : List α} (h : OwnV E w B v xs) (hk : ∀ x,x ∈ xs → ok x) (hl : xs.length * E.byt ≤ 140737488355328) : Fin (fun w bs => RowD E ok w v xs bs) B w.heap.size w :=
 ⟨blkOf v,⟨h.low (Nat.zero_le _),hk,hl,rfl⟩,by unfold blkOf; cases v.ownBlock <;> simp,fun b hb => World.ownsRow.lt h b (mem_blkOf.1 hb)⟩
def MkR {α : Type} {sz : Nat} (E : ElF Tryz.prog (Raw sz)) (R : World → List Value → α → List Nat → Prop) (B : Nat) (w : World) (v : Value) (xs : List α) : Prop :=
 ∃ (css : List (Raw sz)) (subs : List (List Nat)),OwnV E w B v css ∧ All3 (fun c x s => R w c.1 x s) css xs subs ∧ (blkOf v ++ subs.flatten).Nodup ∧ ∀ b,b ∈ blkOf v ++ subs.flatten → B ≤ b ∧ b < w.heap.size
section
variable {α : Type} {sz : Nat} {E : ElF Tryz.prog (Raw sz)} {R : World → List Value → α → List Nat → Prop} {B : Nat} {w : World} {v : Value} {xs : List α}
theorem MkR.nil (E : ElF Tryz.prog (Raw sz)) (R : World → List Value → α → List Nat → Prop) (B : Nat) (w : World) : MkR E R B w (.slice none 0 0) [] :=
 ⟨[],[],OwnV.nil _ _,.nil,List.nodup_nil,fun b hb => by cases hb⟩
theorem MkR.slice (h : MkR E R B w v xs) : ∃ a cap,v = .slice a xs.length cap:=by
 obtain ⟨css,subs,h1,h3,_⟩:=h
 rw [← h3.len.1]
 exact h1.slice
theorem MkR.low (h : MkR E R B w v xs) {B' : Nat} (hB : B' ≤ B) : MkR E R B' w v xs:=by
 obtain ⟨css,subs,h1,h3,h4,h5⟩:=h
 exact ⟨css,subs,h1.low hB,h3,h4,fun b hb => ⟨Nat.le_trans hB (h5 b hb).1,(h5 b hb).2⟩⟩
theorem MkR.keep (hR : FrBy R) (h : MkR E R B w v xs) {w' : World} (hz : w.heap.size ≤ w'.heap.size) (hk : ∀ b,B ≤ b → b < w.heap.size → w'.heap[b]? = w.heap[b]?) : MkR E R B w' v xs:=by
 obtain ⟨css,subs,h1,h3,h4,h5⟩:=h
 exact ⟨css,subs,h1.ofBlock (fun b hb => hk b (h5 b (List.mem_append_left _ (mem_blkOf.2 hb))).1 (h5 b (List.mem_append_left _ (mem_blkOf.2 hb))).2),h3.mono (fun c x s _ _ hs h9 => hR _ _ _ _ _ h9 (fun b hb => have hm:=List.mem_append_right _ (List.mem_flatten.2 ⟨s,hs,hb⟩); hk b (h5 b hm).1 (h5 b hm).2)),h4,fun b hb => ⟨(h5 b hb).1,Nat.lt_of_lt_of_le (h5 b hb).2 hz⟩⟩
theorem MkR.fin (h : MkR E R B w v xs) (hl : xs.length * E.byt ≤ 140737488355328) : Fin (fun w bs => RowT E R w v xs bs) B w.heap.size w:=by
 obtain ⟨css,subs,h1,h3,h4,h5⟩:=h
 exact ⟨_,⟨css,subs,h1.low (Nat.zero_le _),by rw [h3.len.1]; exact hl,h3,rfl⟩,h4,h5⟩
theorem MkR.one (hR : FrBy R) {X : World} (c : Raw sz) {x : α} (hc : Fin (fun w bs => R w c.1 x bs) B X.heap.size X) (hB : B ≤ X.heap.size) (hf : E.f c = c.1) : MkR E R B (X.alloc (.cells c.1.toArray E.T)) (.slice (some ⟨X.heap.size,0,none⟩) 1 1) [x]:=by
 obtain ⟨s,q1,q2,q3⟩:=hc
 have hsz : c.1.length = E.sz:=by rw [← hf]; exact E.hf c
 have hA : Below X.heap.size X (X.alloc (.cells c.1.toArray E.T)):=(Below.refl _ _).alloc (Nat.le_refl _) _
 refine ⟨[c],[s],⟨?_,Or.inr ⟨X.heap.size,1,c.1.toArray,rfl,hB,blk_box X _ _,Nat.le_refl _,by simp [maxLen],by simp [hsz],?_⟩⟩,.cons (hR _ _ _ _ _ q1 (fun b hb => hA.block b (q3 b hb).2)) .nil,?_,?_⟩
 ·simp [hf,hsz]
 ·simp [hf,← hsz]
 ·simp [blkOf,Value.ownBlock]
  exact ⟨fun h9 => by have:=q3 _ h9; omega,q2⟩
 ·intro b hb
  simp [blkOf,Value.ownBlock] at hb ⊢
  rcases hb with rfl | hb
  ·omega
  ·have:=q3 b hb
   omega
theorem MkR.snoc (hR : FrBy R) {X Y A : World} (h : MkR E R B X v xs) (hz : X.heap.size ≤ Y.heap.size) (hk : ∀ b,B ≤ b → b < X.heap.size → Y.heap[b]? = X.heap[b]?) (hA : Below Y.heap.size Y A) {c : Raw sz} {x : α} (hc : Fin (fun w bs => R w c.1 x bs) X.heap.size Y.heap.size Y) (hB : B ≤ X.heap.size) (hf : E.f c = c.1)
  {eb : Nat} (hbx : BlkAt A eb E.T c.1.toArray) (hl : (xs.length + 1) * E.byt ≤ 140737488355328) (ty : TypeId) :
  ∃ v' w5,(Builtin.append_ #[E.ST,E.ST] ty #[v,.slice (some ⟨eb,0,none⟩) 1 1]).run Tryz.prog A = .ok v' w5 ∧ MkR E R B w5 v' (xs ++ [x]) ∧ A.grownBy w5 v.ownBlock ∧ (∀ b,b < B → w5.heap[b]? = A.heap[b]?):=by
 obtain ⟨css,subs,g1,g3,h4,h5⟩:=h
 obtain ⟨s,q1,q2,q3⟩:=hc
 have h1 : OwnV E Y B v css:=g1.ofBlock (fun b hb => have hm:=List.mem_append_left _ (mem_blkOf.2 hb); hk b (h5 b hm).1 (h5 b hm).2)
 have hzA:=hA.size
 obtain ⟨v',w5,hrun,ho5,hg5,hn5⟩:=run_append_one E A ty B v css (h1.below hA) eb c (fun j u hu => by rw [hf] at hu; exact hbx.cell (by simpa using hu)) (by rw [g3.len.1]; exact hl) (Nat.le_trans hB (Nat.le_trans hz hA.size))
 have hz5:=hg5.size
 obtain ⟨hn1,hn2,hn3⟩ : (blkOf v).Nodup ∧ subs.flatten.Nodup ∧ ∀ x,x ∈ blkOf v → x ∉ subs.flatten:=by
  rw [List.nodup_append] at h4
  exact ⟨h4.1,h4.2.1,fun x g1 g2 => h4.2.2 x g1 x g2 rfl⟩
 have e9 : (subs ++ [s]).flatten = subs.flatten ++ s:=by simp
 have hsub : ∀ b,b ∈ subs.flatten → B ≤ b ∧ b < X.heap.size:=fun b hb9 => h5 b (List.mem_append_right _ hb9)
 have hvlt : ∀ b,v.ownBlock = some b → b < X.heap.size:=fun b hb9 => (h5 b (List.mem_append_left _ (mem_blkOf.2 hb9))).2
 have hold : ∀ b,B ≤ b → b < X.heap.size → v.ownBlock ≠ some b → w5.heap[b]? = X.heap[b]?:=fun b hb8 hb9 hne => (hg5.block b (by omega) (fun e => hne e.symm)).trans ((hA.block b (by omega)).trans (hk b hb8 hb9))
 refine ⟨v',w5,hrun,⟨css ++ [c],subs ++ [s],ho5,(g3.mono (fun c x s' _ _ hs' h9 => hR _ _ _ _ _ h9 (fun b hb9 => ?_))).app (.cons (hR _ _ _ _ _ q1 (fun b hb9 => ?_)) .nil),?_,?_⟩,hg5,fun b hb => ?_⟩
 ·have hm : b ∈ subs.flatten:=List.mem_flatten.2 ⟨s',hs',hb9⟩
  exact hold b (hsub b hm).1 (hsub b hm).2 (fun e => hn3 b (mem_blkOf.2 e) hm)
 ·have h9:=q3 b hb9
  exact (hg5.block b (by omega) (fun e => by have:=hvlt b e.symm; omega)).trans (hA.block b h9.2)
 ·rw [e9,List.nodup_append,List.nodup_append]
  refine ⟨?_,⟨hn2,q2,fun x g1 y9 g2 e => ?_⟩,fun x g1 y9 g2 e => ?_⟩
  ·unfold blkOf
   cases v'.ownBlock <;> simp
  ·subst e
   have:=(hsub x g1).2
   have:=(q3 x g2).1
   omega
  ·subst e
   rcases hn5 x (mem_blkOf.1 g1) with g3 | g3
   ·rcases List.mem_append.1 g2 with g4 | g4
    ·exact hn3 x (mem_blkOf.2 g3) g4
    ·have:=hvlt x g3
     have:=(q3 x g4).1
     omega
   ·rcases List.mem_append.1 g2 with g4 | g4
    ·have:=(hsub x g4).2
     omega
    ·have:=(q3 x g4).2
     omega
 ·intro b hb9
  rw [e9] at hb9
  rcases List.mem_append.1 hb9 with g1 | g1
  ·exact World.ownsRow.lt ho5 b (mem_blkOf.1 g1)
  ·rcases List.mem_append.1 g1 with g2 | g2
   ·have:=hsub b g2
    exact ⟨this.1,by omega⟩
   ·have:=q3 b g2
    exact ⟨by omega,by omega⟩
 ·exact hg5.block b (by omega) (fun e => by have:=h1.block b e.symm; omega)
end
end Go.Proofs.YtajabbnlbopcbaaGreatDoor
namespace Go.Proofs.YtajabbnlbopcbaaGreatDoor
open Go.RowKit
set_option linter.unusedSimpArgs false
set_option linter.unusedVariables false
section
variable {code : List Int} {W0 : World} {cb : Nat} {cv : Value} {w : World} {c : Cur}
def ExAns (code : List Int) (W0 : World) (cb : Nat) (cv : Value) (w : World) (x : List DItem × Cur) (e : Ending) (w' : World) : Prop :=
 ∃ a cap,e = .returned (.slice a x.1.length cap) ∧ OwnV elItem w' w.heap.size (.slice a x.1.length cap) x.1 ∧ CuAt code W0 cb cv w' x.2 ∧ Tr cb w w'
theorem own_item {w Y : World} {op val : Int} {nm : ByteArray} {base : Nat} (hz : base ≤ Y.heap.size) : OwnV elItem (Y.alloc (.cells #[.int .i64 op,.int .i64 val,.string nm] 88)) base (.slice (some ⟨Y.heap.size,0,none⟩) 1 1) [⟨op,val,nm⟩] :=
 ⟨by simp [elItem],Or.inr ⟨Y.heap.size,1,#[.int .i64 op,.int .i64 val,.string nm],rfl,hz,blk_box Y _ _,Nat.le_refl _,by simp [maxLen],by simp [elItem],by simp [elItem]⟩⟩
theorem one_item {w1 : World} {c' : Cur} {op val : Int} {nm : ByteArray} (hc : CuAt code W0 cb cv w1 c') (ht : Tr cb w w1) : ExAns code W0 cb cv w ([⟨op,val,nm⟩],c') (.returned (.slice (some ⟨w1.heap.size,0,none⟩) 1 1)) (w1.alloc (.cells #[.int .i64 op,.int .i64 val,.string nm] 88)) :=
 have hA : Below w1.heap.size w1 (w1.alloc (.cells #[.int .i64 op,.int .i64 val,.string nm] 88)):=(Below.refl _ _).alloc (Nat.le_refl _) _
 ⟨_,_,rfl,own_item (w:=w) ht.size,hc.below hA,ht.trans (Tr.of_below hA)⟩
set_option maxHeartbeats 1000000 in
theorem const_ok (h : CuAt code W0 cb cv w c) (kind : Int) (hok : okB 1 c) : Calls Tryz.prog 51 #[.pointer (some ⟨cb,0,none⟩),.int .i64 kind] w (ExAns code W0 cb cv w (cnF code kind c)):=by
 by_cases hk : kind = 2
 ·subst hk
  have e : cnF code 2 c = ([⟨2,(pkF code 2 c).1,noN⟩],(pkF code 2 c).2):=by unfold cnF; rw [if_pos rfl]
  rw [e]
  have HP:=hide (pick_ok h 2 (by omega) hok)
  have e2 : ((2 : Nat) : Int) = 2:=rfl
  rw [e2] at HP
  generalize pkF code 2 c = x at *
  obtain ⟨b,c'⟩:=x
  simp only at *
  clear h e e2
  go_enter Tryz.func51,Tryz.ntmps51
  go_wp2_with fail
  refine (uh HP).mono ?_
  rintro e w1 ⟨rfl,hc1,ht1⟩
  have HF:=hide (one_item (op:=2) (val:=b) (nm:=noN) hc1 ht1)
  clear hc1 ht1
  go_wp2
  first | go_ret | skip
  exact uh HF
 ·have hkb : (kind == 2) = false:=by rw [beq_eq_false_iff_ne]; exact hk
  have e : cnF code kind c = ([⟨1,valsL.getD (pkF code 10 c).1 0,noN⟩],(pkF code 10 c).2):=by unfold cnF; rw [if_neg hk]
  rw [e]
  obtain ⟨A,hAA⟩ : ∃ A,A = w.alloc (.cells #[.int .i64 0,.int .i64 1,.int .i64 2,.int .i64 3,.int .i64 7,.int .i64 100,.int .i64 2147483647,.int .i64 65536,.int .i64 5,.int .i64 10] 3):=⟨_,rfl⟩
  have hA : Below w.heap.size w A:=hAA ▸ (Below.refl _ _).alloc (Nat.le_refl _) _
  have hb : BlkAt A w.heap.size 3 #[.int .i64 0,.int .i64 1,.int .i64 2,.int .i64 3,.int .i64 7,.int .i64 100,.int .i64 2147483647,.int .i64 65536,.int .i64 5,.int .i64 10]:=hAA ▸ blk_box w _ _
  have HP:=hide (pick_ok (h.below hA) 10 (by omega) hok)
  have e2 : ((10 : Nat) : Int) = 10:=rfl
  rw [e2] at HP
  have hlt:=pkF_lt code (m:=10) c (by omega)
  have hne : w.heap.size ≠ cb:=by have:=h.blk.lt; omega
  generalize pkF code 10 c = x at *
  obtain ⟨b,c'⟩:=x
  simp only at *
  have hv : ∀ i,i < 10 → (#[Value.int .i64 0,.int .i64 1,.int .i64 2,.int .i64 3,.int .i64 7,.int .i64 100,.int .i64 2147483647,.int .i64 65536,.int .i64 5,.int .i64 10] : Array Value)[i]? = some (.int .i64 (valsL.getD i 0)):=by
   intro i hi
   match i,hi with
   | 0,_ => rfl
   | 1,_ => rfl
   | 2,_ => rfl
   | 3,_ => rfl
   | 4,_ => rfl
   | 5,_ => rfl
   | 6,_ => rfl
   | 7,_ => rfl
   | 8,_ => rfl
   | 9,_ => rfl
  have HV:=hide (hv b hlt)
  have HB:=hide hb
  have HT:=hide (Tr.of_below (r:=cb) hA)
  have HAA:=hide hAA
  have hbI : (b : Int) < 10:=by omega
  clear h e e2 hv hb hA hAA hk
  go_enter Tryz.func51,Tryz.ntmps51
  go_wp2_with fail
  rw [← uh HAA]
  refine (uh HP).mono ?_
  rintro e w1 ⟨rfl,hc1,ht1⟩
  have hb1:=ht1.blk (uh HB) hne
  have c0:=hb1.cell (i:=b) (uh HV)
  have HF:=hide (one_item (op:=1) (val:=valsL.getD b 0) (nm:=noN) hc1 ((uh HT).trans ht1))
  clear hc1 ht1 hb1
  generalize valsL.getD b 0 = vb at *
  go_wp2
  first | go_ret | skip
  exact uh HF
def FdAns (w : World) (xs : List ByteArray) (e : Ending) (w' : World) : Prop:=∃ a cap,e = .returned (.slice a xs.length cap) ∧ OwnV elStr w' w.heap.size (.slice a xs.length cap) xs ∧ Below w.heap.size w w'
set_option maxHeartbeats 4000000 in
theorem find_ok {vs : List DVar} {sv kv : Value} {k : List DCond} (hs : SlAt 3 48 RVar 0 w sv vs) (hk : SlAt 2 24 RCond 0 w kv k) (hl : vs.length ≤ 500) (rank : Nat) (kind : Int) (late : Bool) :
  Calls Tryz.prog 50 #[.agg #[sv,.int .i64 rank],.int .i64 kind,kv,.bool late] w (FdAns w (fnF vs rank kind k late)):=by
 obtain ⟨sa,sc,rfl⟩:=hs.shape
 obtain ⟨ka,kc,rfl⟩:=hk.shape
 obtain ⟨A,hAA⟩ : ∃ A,A = (w.alloc (.cells #[.slice sa vs.length sc,.int .i64 rank] 91)).alloc (.cells #[] 9):=⟨_,rfl⟩
 have hA : Below w.heap.size w A:=hAA ▸ ((Below.refl _ _).alloc (Nat.le_refl _) _).alloc (by simp) _
 have hbs : BlkAt A w.heap.size 91 #[.slice sa vs.length sc,.int .i64 rank]:=hAA ▸ (blk_box w _ _).below ((Below.refl _ _).alloc (Nat.le_refl _) _) (by simp)
 have HO0 : Hid (OwnV elStr A (w.heap.size + 1) (.slice (some ⟨w.heap.size + 1,0,none⟩) 0 0) []):=by
  have h9:=OwnV.start (E:=elStr) (w.alloc (.cells #[.slice sa vs.length sc,.int .i64 rank] 91)) (w.heap.size + 1) (by simp)
  have h8 : OwnV elStr ((w.alloc (.cells #[.slice sa vs.length sc,.int .i64 rank] 91)).alloc (.cells #[] elStr.T)) (w.heap.size + 1) (.slice (some ⟨w.heap.size + 1,0,none⟩) 0 0) []:=by simpa using h9
  rw [hAA]
  exact h8
 have HS:=hide hs
 have HKC:=hide hk
 have HA:=hide hA
 have HBS:=hide hbs
 have s0:=hbs.cell (i:=0) (v:=.slice sa vs.length sc) rfl
 have HAA:=hide hAA
 obtain ⟨PO,hPO⟩ : ∃ PO : Ending → World → Prop,PO = FdAns w (fnF vs rank kind k late):=⟨_,rfl⟩
 rw [← hPO]
 have HPO:=hide hPO
 clear hs hk hA hbs hPO hAA
 go_enter Tryz.func50,Tryz.ntmps50
 go_wp2
 rw [← uh HAA]
 go_loopg [9,16] vs.length (fun g v x wr => ∃ (i : Nat),i ≤ vs.length ∧ g = vs.length - i ∧ x = .int .i64 i ∧ OwnV elStr wr (w.heap.size + 1) v (fnTo vs rank kind k late i) ∧ Below (w.heap.size + 1) A wr)
 case atStart => exact ⟨0,Nat.zero_le _,rfl,rfl,uh HO0,Below.refl _ _⟩
 case round =>
  obtain ⟨i,hi,hg,rfl,hown,hbl⟩:=hrel
  have HG:=hide hg
  have HO:=hide hown
  have HB:=hide hbl
  have hAs:=(uh HBS).lt
  have HBw : Hid (Below w.heap.size w wr):=(uh HA).trans (hbl.mono (by omega))
  have hbs:=(uh HBS).below hbl (by omega)
  obtain ⟨va,vc,hv⟩:=hown.slice
  have hln:=fnTo_len vs rank kind k late i
  subst hv
  clear hg hown hbl
  by_cases hlt : i < vs.length
  ·obtain ⟨a9,c9,he9,_,_,hx⟩:=uh HS
   simp only [Value.slice.injEq] at he9
   obtain ⟨rfl,_,rfl⟩:=he9
   obtain ⟨b,o,cs,rfl,_,hb,hcs,hc,hR⟩:=hx i hlt
   obtain ⟨cl,rfl,hn1,hn2,hcl⟩:=hR
   have c0:=((uh HBw).cell (p:=⟨b,o + i * 3 + 0,none⟩) hb).trans (hc 0 (by simp))
   have c1:=((uh HBw).cell (p:=⟨b,o + i * 3 + 1,none⟩) hb).trans (hc 1 (by simp))
   have c2:=((uh HBw).cell (p:=⟨b,o + i * 3 + 2,none⟩) hb).trans (hc 2 (by simp))
   simp only [Nat.add_zero,List.getElem_cons_zero,List.getElem_cons_succ] at c0 c1 c2
   obtain ⟨la,lc,rfl⟩:=hcl.shape
   have HNX : Hid (fnTo vs rank kind k late (i + 1) = fnTo vs rank kind k late i ++ (if fdB rank kind k late i vs[i] then [vs[i].name] else [])):=by
    show _ = _
    rw [fnTo,dif_pos hlt]
   have r1:=hbs.cell (i:=1) (v:=.int .i64 rank) rfl
   generalize hu : vs[i] = u at *
   obtain ⟨nm,ty,clk⟩:=u
   simp only at *
   unfold fdB at HNX
   simp only at HNX
   obtain ⟨B,hBB⟩ : ∃ B,B = wr.alloc (.cells #[.string nm,.int .i64 ty,.slice la clk.length lc] 67):=⟨_,rfl⟩
   have hB : Below wr.heap.size wr B:=hBB ▸ (Below.refl _ _).alloc (Nat.le_refl _) _
   have hwz:=(uh HB).size
   have hwz2 : w.heap.size < wr.heap.size:=by omega
   have HBB2 : Hid (∀ X,Below B.heap.size B X → Below (w.heap.size + 1) A X ∧ OwnV elStr X (w.heap.size + 1) (.slice va (fnTo vs rank kind k late i).length vc) (fnTo vs rank kind k late i)):=fun X hX => by
    have h9:=hB.trans (hX.mono hB.size)
    exact ⟨(uh HB).trans (h9.mono (by omega)),(uh HO).below h9⟩
   have hbv : BlkAt B wr.heap.size 67 #[.string nm,.int .i64 ty,.slice la clk.length lc]:=hBB ▸ blk_box wr _ _
   have HSC:=hide (l1SameClock_ok clk k (.slice la clk.length lc) (.slice ka k.length kc) B (hcl.stays RCond_kept ((uh HBw).trans (hB.mono (uh HBw).size))) ((uh HKC).stays RCond_kept ((uh HBw).trans (hB.mono (uh HBw).size))))
   have hrB:=(hbs.below hB (by omega)).cell (i:=1) (v:=.int .i64 rank) rfl
   have b0:=hbv.cell (i:=0) (v:=.string nm) rfl
   have b1:=hbv.cell (i:=1) (v:=.int .i64 ty) rfl
   have b2:=hbv.cell (i:=2) (v:=.slice la clk.length lc) rfl
   have HBV:=hide hbv
   have HB9:=hide hBB
   have hlenI : (fnTo vs rank kind k late i).length ≤ 500:=by omega
   rw [hBB] at hrB b0 b1 b2
   clear hc hcs hu hx hcl hbv hB hbs hBB
   by_cases g1 : (late || decide (i < rank)) = true
   case neg =>
    have gl : late = false:=by cases late; rfl; simp at g1
    have gi : ¬ i < rank:=by intro h; apply g1; simp [h]
    subst gl
    have di : decide ((i : Int) < (rank : Int)) = false:=by simp; omega
    have di2 : decide (i < rank) = false:=by simp; omega
    have HN2 : Hid (fnTo vs rank kind k false (i + 1) = fnTo vs rank kind k false i):=by
     show _ = _
     rw [uh HNX]
     simp [gi]
    clear g1
    go_wp2
    go_roundg (vs.length - (i + 1))
    case measure => have:=uh HG; omega
    case rel =>
     rw [← uh HB9]
     exact ⟨i + 1,by omega,rfl,by go_num,by rw [uh HN2]; exact (uh HBB2 B (Below.refl _ _)).2,(uh HBB2 B (Below.refl _ _)).1⟩
   case pos =>
    have HG1 : Hid (late = true ∨ (late = false ∧ i < rank)):=by
     show _ ∨ _
     cases late
     ·right; exact ⟨rfl,by simpa using g1⟩
     ·left; rfl
    by_cases g2 : ty = kind
    case neg =>
     have HN2 : Hid (fnTo vs rank kind k late (i + 1) = fnTo vs rank kind k late i):=by
      show _ = _
      rw [uh HNX]
      simp [g2]
     have db : (ty == kind) = false:=by rw [beq_eq_false_iff_ne]; exact g2
     clear g1 g2
     rcases uh HG1 with hl9 | ⟨hl9,hi9⟩
     all_goals
      subst hl9
      try have di : decide ((i : Int) < (rank : Int)) = true:=by simp; omega
      try have di2 : decide (i < rank) = true:=by simp; omega
      go_wp2
      go_roundg (vs.length - (i + 1))
      case measure => have:=uh HG; omega
      case rel =>
       rw [← uh HB9]
       exact ⟨i + 1,by omega,rfl,by go_num,by rw [uh HN2]; exact (uh HBB2 B (Below.refl _ _)).2,(uh HBB2 B (Below.refl _ _)).1⟩
    case pos =>
     have db : (ty == kind) = true:=by rw [beq_iff_eq]; exact g2
     cases g3 : sameC clk k
     ·have HN2 : Hid (fnTo vs rank kind k late (i + 1) = fnTo vs rank kind k late i):=by
       show _ = _
       rw [uh HNX]
       simp [g3]
      rw [g3] at HSC
      clear g1 g2 g3
      rcases uh HG1 with hl9 | ⟨hl9,hi9⟩
      all_goals
       subst hl9
       try have di : decide ((i : Int) < (rank : Int)) = true:=by simp; omega
       try have di2 : decide (i < rank) = true:=by simp; omega
       go_wp2_with (go_at_call 82; rw [← uh HB9]; refine (uh HSC).mono ?_; rintro e w5 ⟨rfl,hb5⟩; have H5:=hide (uh HBB2 _ hb5); clear hb5)
       go_roundg (vs.length - (i + 1))
       case measure => have:=uh HG; omega
       case rel => exact ⟨i + 1,by omega,rfl,by go_num,by rw [uh HN2]; exact (uh H5).2,(uh H5).1⟩
     ·have HN2 : Hid (fnTo vs rank kind k late (i + 1) = fnTo vs rank kind k late i ++ [nm]):=by
       show _ = _
       rw [uh HNX]
       simp [g1,g2,g3]
      rw [g3] at HSC
      clear g1 g2 g3
      rcases uh HG1 with hl9 | ⟨hl9,hi9⟩
      all_goals
       subst hl9
       try have di : decide ((i : Int) < (rank : Int)) = true:=by simp; omega
       try have di2 : decide (i < rank) = true:=by simp; omega
       go_wp2_with (first | (go_at_call 82; rw [← uh HB9]; refine (uh HSC).mono ?_; rintro e w5 ⟨rfl,hb5⟩; have hb0:=((uh HBV).below hb5 (uh HBV).lt).cell (i:=0) (v:=.string nm) rfl; have hA6 : Below w5.heap.size w5 (w5.alloc (.cells #[.string nm] 9)):=(Below.refl _ _).alloc (Nat.le_refl _) _; have H6:=hide (uh HBB2 _ (hb5.trans (hA6.mono hb5.size))); have hz6 : w.heap.size + 1 ≤ w5.heap.size:=(by have:=hb5.size; have:=(uh HBV).lt; omega); clear hb5 hA6 HSC) | (at_builtin; go_must (refine wpList_append_oneF elStr _ rfl _ _ rfl (w.heap.size + 1) _ _ rfl (uh H6).2 w5.heap.size nm rfl (fun j u hu => by rw [World.cell?_alloc_at _ _ _ _ rfl]; simpa [elStr] using hu) (by simp [elStr]; omega) (by simp; omega) ?_)))
       intro v7 w7 hown7 hgr7
       have HO7:=hide hown7
       have HB7 : Hid (Below (w.heap.size + 1) A w7):=(uh H6).2.grown (uh H6).1 hgr7 (by simp; omega) (Nat.le_refl _)
       obtain ⟨a7,c7,rfl⟩:=hown7.slice
       clear hown7 hgr7
       go_wp2
       go_roundg (vs.length - (i + 1))
       case measure => have:=uh HG; omega
       case rel => exact ⟨i + 1,by omega,rfl,by go_num,by rw [uh HN2]; exact uh HO7,uh HB7⟩
  ·have e : i = vs.length:=by omega
   have HF : Hid (PO (.returned (.slice va (fnTo vs rank kind k late i).length vc)) wr):=by
    show PO _ _
    rw [uh HPO,e]
    rw [e] at HO
    exact ⟨va,vc,rfl,(uh HO).low (by omega),uh HBw⟩
   clear hbs
   subst e
   go_wp2
   first | go_ret | skip
   exact uh HF
end
end Go.Proofs.YtajabbnlbopcbaaGreatDoor
