import Derived.Test.YtjjldnkhadakcaaGreatMToB
import Derived.Test.YtjjldnkhadakcaaGreatChars
import Derived.Laws.BytesString
namespace Go.Proofs.YtjjldnkhadakcaaGreat
open Go.RowKit
set_option linter.unusedSimpArgs false
set_option linter.unusedVariables false
def Kind2 (v v' : Value) : Prop:=v' = v ∨ (∃ x y,v = .int .i64 x ∧ v' = .int .i64 y) ∨ (∃ s t,v = .string s ∧ v' = .string t)
theorem Kind2.refl (v : Value) : Kind2 v v:=Or.inl rfl
theorem Kind2.int {x : Int} {v' : Value} (h : Kind2 (.int .i64 x) v') : ∃ y,v' = .int .i64 y:=by
 rcases h with h | ⟨_,y,_,h⟩ | ⟨s,_,h,_⟩
 ·exact ⟨x,h⟩
 ·exact ⟨y,h⟩
 ·cases h
theorem Kind2.str {x : ByteArray} {v' : Value} (h : Kind2 (.string x) v') : ∃ y,v' = .string y:=by
 rcases h with h | ⟨_,y,h,_⟩ | ⟨s,t,_,h⟩
 ·exact ⟨x,h⟩
 ·cases h
 ·exact ⟨t,h⟩
theorem Kind2.sl {a : Option Addr} {n c : Nat} {v' : Value} (h : Kind2 (.slice a n c) v') : v' = .slice a n c:=by
 rcases h with h | ⟨_,y,h,_⟩ | ⟨s,t,h,_⟩
 ·exact h
 ·cases h
 ·cases h
theorem Kind2.trans {a b c : Value} (h : Kind2 a b) (k : Kind2 b c) : Kind2 a c:=by
 rcases h with rfl | ⟨x,y,rfl,rfl⟩ | ⟨s,t,rfl,rfl⟩
 ·exact k
 ·obtain ⟨z,rfl⟩:=k.int
  exact Or.inr (Or.inl ⟨_,_,rfl,rfl⟩)
 ·obtain ⟨z,rfl⟩:=k.str
  exact Or.inr (Or.inr ⟨_,_,rfl,rfl⟩)
theorem Kind2.ints (x y : Int) : Kind2 (.int .i64 x) (.int .i64 y):=Or.inr (Or.inl ⟨x,y,rfl,rfl⟩)
theorem Kind2.strs (x y : ByteArray) : Kind2 (.string x) (.string y):=Or.inr (Or.inr ⟨x,y,rfl,rfl⟩)
theorem frozen_set (w : World) (p q : Addr) (u : Value) : (w.setCell p u).frozen? q = w.frozen? q:=by
 simp only [World.frozen?,World.setCell,Array.getElem?_modify]
 by_cases h : p.block = q.block
 ·rw [if_pos h]
  cases w.heap[q.block]? with
  | none => rfl
  | some o => cases o <;> rfl
 ·rw [if_neg h]
theorem cell_set_here (w : World) (b o : Nat) (u v : Value) (h : w.cell? ⟨b,o,none⟩ = some v) : (w.setCell ⟨b,o,none⟩ u).cell? ⟨b,o,none⟩ = some u:=by
 simp only [World.cell?,World.setCell,Array.getElem?_modify,if_true] at *
 cases hh : w.heap[b]? with
 | none => rw [hh] at h; simp at h
 | some x =>
  cases x with
  | cells c t f =>
   rw [hh] at h
   simp at h
   have hl : o < c.size:=(Array.getElem?_eq_some_iff.1 h).1
   simp [hl]
  | _ => rw [hh] at h; simp at h
structure Mk (lo hi : Nat) (w w' : World) : Prop where
 os : w'.os = w.os
 tape : w'.tape = w.tape
 output : w'.output = w.output
 size : w.heap.size ≤ w'.heap.size
 out : ∀ k,k < w.heap.size → (k < lo ∨ hi ≤ k) → w'.heap[k]? = w.heap[k]?
 cells : ∀ b o v,lo ≤ b → b < hi → w.cell? ⟨b,o,none⟩ = some v → ∃ v',w'.cell? ⟨b,o,none⟩ = some v' ∧ Kind2 v v'
 frz : ∀ b o,lo ≤ b → b < hi → w'.frozen? ⟨b,o,none⟩ = w.frozen? ⟨b,o,none⟩
theorem Mk.refl (lo hi : Nat) (w : World) : Mk lo hi w w:=⟨rfl,rfl,rfl,Nat.le_refl _,fun _ _ _ => rfl,fun _ _ v _ _ h => ⟨v,h,Kind2.refl v⟩,fun _ _ _ _ => rfl⟩
theorem Mk.trans {lo hi : Nat} {a b c : World} (h : Mk lo hi a b) (k : Mk lo hi b c) : Mk lo hi a c :=
 ⟨k.os.trans h.os,k.tape.trans h.tape,k.output.trans h.output,Nat.le_trans h.size k.size,fun i hi ho => (k.out i (Nat.lt_of_lt_of_le hi h.size) ho).trans (h.out i hi ho),fun bb o v h1 h2 h3 => by
  obtain ⟨v1,h4,h5⟩:=h.cells bb o v h1 h2 h3
  obtain ⟨v2,h6,h7⟩:=k.cells bb o v1 h1 h2 h4
  exact ⟨v2,h6,h5.trans h7⟩,fun bb o h1 h2 => (k.frz bb o h1 h2).trans (h.frz bb o h1 h2)⟩
theorem Mk.of_below {lo hi : Nat} {w w' : World} (h : Below w.heap.size w w') (hh : hi ≤ w.heap.size) : Mk lo hi w w' :=
 ⟨h.os,h.tape,h.output,h.size,fun k hk _ => h.block k hk,fun b o v _ h2 h3 => ⟨v,(h.cell (p:=⟨b,o,none⟩) (show b < _ by omega)).trans h3,Kind2.refl v⟩,fun b o _ h2 => h.frozen (p:=⟨b,o,none⟩) (show b < _ by omega)⟩
theorem Mk.then {lo hi : Nat} {w w1 w' : World} (h : Mk lo hi w w1) (hb : Below w1.heap.size w1 w') (hh : hi ≤ w.heap.size) : Mk lo hi w w':=h.trans (Mk.of_below hb (Nat.le_trans hh h.size))
theorem Mk.setCell {lo hi : Nat} {w w' : World} (h : Mk lo hi w w') {b o : Nat} {v u : Value} (h1 : lo ≤ b) (h2 : b < hi) (hc : w'.cell? ⟨b,o,none⟩ = some v) (hk : Kind2 v u) : Mk lo hi w (w'.setCell ⟨b,o,none⟩ u):=by
 refine h.trans ⟨rfl,rfl,rfl,by simp [World.setCell],fun k hk ho => Below.heap_setCell _ _ _ _ (by simp only; omega),fun b' o' v' h3 h4 h5 => ?_,fun b' o' _ _ => frozen_set _ _ _ _⟩
 by_cases e : b' = b ∧ o' = o
 ·obtain ⟨rfl,rfl⟩:=e
  rw [hc] at h5
  obtain rfl : v = v':=by simpa using h5
  exact ⟨u,cell_set_here _ _ _ _ _ hc,hk⟩
 ·exact ⟨v',(cell_set_other _ _ _ _ _ (by simp only; omega)).trans h5,Kind2.refl _⟩
theorem Mk.below {lo hi : Nat} {w w' : World} (h : Mk lo hi w w') (hl : lo ≤ w.heap.size) : Below lo w w':=⟨h.os,h.tape,h.output,h.size,fun k hk => h.out k (by omega) (Or.inl hk)⟩
def ElK {α : Type} (sz : Nat) (R : Nat → Nat → World → List Value → α → Prop) (lo hi : Nat) (w : World) (b off : Nat) (x : α) : Prop :=
 lo ≤ b ∧ b < hi ∧ ∃ cs,cs.length = sz ∧ (∀ j (hj : j < cs.length),w.cell? ⟨b,off + j,none⟩ = some cs[j] ∧ w.frozen? ⟨b,off + j,none⟩ = false) ∧ R lo hi w cs x
def MAt {α : Type} (sz : Nat) (R : Nat → Nat → World → List Value → α → Prop) (lo hi : Nat) (w : World) (v : Value) (xs : List α) : Prop :=
 ∃ a cap,v = .slice a xs.length cap ∧ Len xs.length ∧ ∀ i (h : i < xs.length),∃ b o,a = some ⟨b,o,none⟩ ∧ ElK sz R lo hi w b (o + i * sz) xs[i]
def MKept {α : Type} (R : Nat → Nat → World → List Value → α → Prop) : Prop:=∀ lo hi w w' cs cs' x,Mk lo hi w w' → cs'.length = cs.length → (∀ j (h : j < cs.length) (h' : j < cs'.length),Kind2 cs[j] cs'[j]) → R lo hi w cs x → R lo hi w' cs' x
theorem cells_pick (sz : Nat) (P : Nat → Value → Prop) (h : ∀ j,j < sz → ∃ v,P j v) : ∃ cs : List Value,cs.length = sz ∧ ∀ j (hj : j < cs.length),P j cs[j]:=by
 induction sz with
 | zero => exact ⟨[],rfl,fun j hj => absurd hj (Nat.not_lt_zero _)⟩
 | succ n ih =>
  obtain ⟨cs,hl,hc⟩:=ih (fun j hj => h j (by omega))
  obtain ⟨v,hv⟩:=h n (by omega)
  refine ⟨cs ++ [v],by simp [hl],fun j hj => ?_⟩
  by_cases e : j < cs.length
  ·rw [List.getElem_append_left e]
   exact hc j e
  ·have e2 : j = cs.length:=by simp at hj; omega
   subst e2
   rw [List.getElem_append_right (Nat.le_refl _)]
   simp only [Nat.sub_self,List.getElem_cons_zero]
   rw [hl]
   exact hv
theorem ElK.stays {α : Type} {sz : Nat} {R : Nat → Nat → World → List Value → α → Prop} (hR : MKept R) {lo hi : Nat} {w w' : World} {b off : Nat} {x : α} (hm : Mk lo hi w w') (h : ElK sz R lo hi w b off x) : ElK sz R lo hi w' b off x:=by
 obtain ⟨h1,h2,cs,hl,hc,hr⟩:=h
 refine ⟨h1,h2,?_⟩
 obtain ⟨cs',hl',hc'⟩:=cells_pick sz (fun j v => w'.cell? ⟨b,off + j,none⟩ = some v ∧ ∃ u,cs[j]? = some u ∧ Kind2 u v) (fun j hj => by
  obtain ⟨v',h3,h4⟩:=hm.cells b (off + j) _ h1 h2 (hc j (by omega)).1
  exact ⟨v',h3,_,List.getElem?_eq_getElem (by omega),h4⟩)
 refine ⟨cs',hl',fun j hj => ⟨(hc' j hj).1,?_⟩,hR _ _ _ _ _ _ _ hm (by omega) (fun j h3 h4 => ?_) hr⟩
 ·rw [hm.frz b _ h1 h2]
  exact (hc j (by omega)).2
 ·obtain ⟨_,u,h5,h6⟩:=hc' j h4
  rw [List.getElem?_eq_getElem h3] at h5
  obtain rfl : cs[j] = u:=by simpa using h5
  exact h6
theorem MAt.stays {α : Type} {sz : Nat} {R : Nat → Nat → World → List Value → α → Prop} (hR : MKept R) {lo hi : Nat} {w w' : World} {v : Value} {xs : List α} (hm : Mk lo hi w w') (h : MAt sz R lo hi w v xs) : MAt sz R lo hi w' v xs:=by
 obtain ⟨a,cap,h1,h2,h3⟩:=h
 refine ⟨a,cap,h1,h2,fun i hi => ?_⟩
 obtain ⟨b,o,h4,h5⟩:=h3 i hi
 exact ⟨b,o,h4,h5.stays hR hm⟩
theorem MAt.shape {α : Type} {sz : Nat} {R : Nat → Nat → World → List Value → α → Prop} {lo hi : Nat} {w : World} {v : Value} {xs : List α} (h : MAt sz R lo hi w v xs) : ∃ a cap,v = .slice a xs.length cap:=by
 obtain ⟨a,cap,h1,_⟩:=h
 exact ⟨a,cap,h1⟩
theorem MAt.same {α : Type} {sz : Nat} {R : Nat → Nat → World → List Value → α → Prop} (hR : MKept R) {lo hi : Nat} {w w' : World} {v v' : Value} {xs : List α} (hm : Mk lo hi w w') (hk : Kind2 v v') (h : MAt sz R lo hi w v xs) : MAt sz R lo hi w' v' xs:=by
 have h9:=h.stays hR hm
 obtain ⟨a,cap,rfl⟩:=h.shape
 rw [hk.sl]
 exact h9
theorem list1k {cs' : List Value} {a : Value} (h : cs'.length = [a].length) (hk : ∀ j (h : j < [a].length) (h' : j < cs'.length),Kind2 [a][j] cs'[j]) : ∃ a',cs' = [a'] ∧ Kind2 a a':=by
 match cs',h with
 | [a'],_ => exact ⟨a',rfl,hk 0 (by simp) (by simp)⟩
theorem list2k {cs' : List Value} {a b : Value} (h : cs'.length = [a,b].length) (hk : ∀ j (h : j < [a,b].length) (h' : j < cs'.length),Kind2 [a,b][j] cs'[j]) : ∃ a' b',cs' = [a',b'] ∧ Kind2 a a' ∧ Kind2 b b':=by
 match cs',h with
 | [a',b'],_ => exact ⟨a',b',rfl,hk 0 (by simp) (by simp),hk 1 (by simp) (by simp)⟩
theorem list3k {cs' : List Value} {a b c : Value} (h : cs'.length = [a,b,c].length) (hk : ∀ j (h : j < [a,b,c].length) (h' : j < cs'.length),Kind2 [a,b,c][j] cs'[j]) : ∃ a' b' c',cs' = [a',b',c'] ∧ Kind2 a a' ∧ Kind2 b b' ∧ Kind2 c c':=by
 match cs',h with
 | [a',b',c'],_ => exact ⟨a',b',c',rfl,hk 0 (by simp) (by simp),hk 1 (by simp) (by simp),hk 2 (by simp) (by simp)⟩
theorem list6k {cs' : List Value} {a b c d e f : Value} (h : cs'.length = [a,b,c,d,e,f].length) (hk : ∀ j (h : j < [a,b,c,d,e,f].length) (h' : j < cs'.length),Kind2 [a,b,c,d,e,f][j] cs'[j]) : ∃ a' b' c' d' e' f',cs' = [a',b',c',d',e',f'] ∧ Kind2 a a' ∧ Kind2 b b' ∧ Kind2 c c' ∧ Kind2 d d' ∧ Kind2 e e' ∧ Kind2 f f':=by
 match cs',h with
 | [a',b',c',d',e',f'],_ => exact ⟨a',b',c',d',e',f',rfl,hk 0 (by simp) (by simp),hk 1 (by simp) (by simp),hk 2 (by simp) (by simp),hk 3 (by simp) (by simp),hk 4 (by simp) (by simp),hk 5 (by simp) (by simp)⟩
theorem list7k {cs' : List Value} {a b c d e f g : Value} (h : cs'.length = [a,b,c,d,e,f,g].length) (hk : ∀ j (h : j < [a,b,c,d,e,f,g].length) (h' : j < cs'.length),Kind2 [a,b,c,d,e,f,g][j] cs'[j]) : ∃ a' b' c' d' e' f' g',cs' = [a',b',c',d',e',f',g'] ∧ Kind2 a a' ∧ Kind2 b b' ∧ Kind2 c c' ∧ Kind2 d d' ∧ Kind2 e e' ∧ Kind2 f f' ∧ Kind2 g g':=by
 match cs',h with
 | [a',b',c',d',e',f',g'],_ => exact ⟨a',b',c',d',e',f',g',rfl,hk 0 (by simp) (by simp),hk 1 (by simp) (by simp),hk 2 (by simp) (by simp),hk 3 (by simp) (by simp),hk 4 (by simp) (by simp),hk 5 (by simp) (by simp),hk 6 (by simp) (by simp)⟩
def KStr (_ _ : Nat) (_ : World) (cs : List Value) (_ : ByteArray) : Prop:=∃ s,cs = [.string s]
def KInt (_ _ : Nat) (_ : World) (cs : List Value) (_ : Int) : Prop:=∃ x,cs = [.int .i64 x]
def KItem (_ _ : Nat) (_ : World) (cs : List Value) (_ : DItem) : Prop:=∃ x y s,cs = [.int .i64 x,.int .i64 y,.string s]
def KSlot (_ _ : Nat) (_ : World) (cs : List Value) (_ : DSlot) : Prop:=∃ s x,cs = [.string s,.int .i64 x]
def KItems (lo hi : Nat) (w : World) (cs : List Value) (l : List DItem) : Prop:=∃ v,cs = [v] ∧ MAt 3 KItem lo hi w v l
def KStm (lo hi : Nat) (w : World) (cs : List Value) (t : DStm) : Prop:=∃ x s y o c a,cs = [.int .i64 x,.string s,.int .i64 y,o,c,a] ∧ MAt 1 KStr lo hi w o t.outs ∧ MAt 3 KItem lo hi w c t.code ∧ MAt 1 KItems lo hi w a t.args
def KClass (lo hi : Nat) (w : World) (cs : List Value) (k : DClass) : Prop:=∃ s i o l m n b,cs = [.string s,i,o,l,m,n,b] ∧ MAt 2 KSlot lo hi w i k.ins ∧ MAt 2 KSlot lo hi w o k.outs ∧ MAt 1 KStr lo hi w l k.locs ∧ MAt 1 KInt lo hi w m k.mems ∧ MAt 1 KInt lo hi w n k.insts ∧ MAt 6 KStm lo hi w b k.body
theorem KStr_kept : MKept KStr:=fun _ _ _ _ _ _ _ _ hl hk ⟨s,h⟩ => by
 subst h
 obtain ⟨a',rfl,h1⟩:=list1k hl hk
 obtain ⟨y,rfl⟩:=h1.str
 exact ⟨y,rfl⟩
theorem KInt_kept : MKept KInt:=fun _ _ _ _ _ _ _ _ hl hk ⟨s,h⟩ => by
 subst h
 obtain ⟨a',rfl,h1⟩:=list1k hl hk
 obtain ⟨y,rfl⟩:=h1.int
 exact ⟨y,rfl⟩
theorem KItem_kept : MKept KItem:=fun _ _ _ _ _ _ _ _ hl hk ⟨x,y,s,h⟩ => by
 subst h
 obtain ⟨a',b',c',rfl,h1,h2,h3⟩:=list3k hl hk
 obtain ⟨y1,rfl⟩:=h1.int
 obtain ⟨y2,rfl⟩:=h2.int
 obtain ⟨y3,rfl⟩:=h3.str
 exact ⟨_,_,_,rfl⟩
theorem KSlot_kept : MKept KSlot:=fun _ _ _ _ _ _ _ _ hl hk ⟨x,y,h⟩ => by
 subst h
 obtain ⟨a',b',rfl,h1,h2⟩:=list2k hl hk
 obtain ⟨y1,rfl⟩:=h1.str
 obtain ⟨y2,rfl⟩:=h2.int
 exact ⟨_,_,rfl⟩
theorem KItems_kept : MKept KItems:=fun _ _ _ _ _ _ _ hm hl hk ⟨v,h,h2⟩ => by
 subst h
 obtain ⟨a',rfl,h1⟩:=list1k hl hk
 exact ⟨_,rfl,h2.same KItem_kept hm h1⟩
theorem KStm_kept : MKept KStm:=fun _ _ _ _ _ _ _ hm hl hk ⟨x,s,y,o,c,a,h,g1,g2,g3⟩ => by
 subst h
 obtain ⟨a1,a2,a3,a4,a5,a6,rfl,h1,h2,h3,h4,h5,h6⟩:=list6k hl hk
 obtain ⟨y1,rfl⟩:=h1.int
 obtain ⟨y2,rfl⟩:=h2.str
 obtain ⟨y3,rfl⟩:=h3.int
 exact ⟨_,_,_,_,_,_,rfl,g1.same KStr_kept hm h4,g2.same KItem_kept hm h5,g3.same KItems_kept hm h6⟩
theorem KClass_kept : MKept KClass:=fun _ _ _ _ _ _ _ hm hl hk ⟨s,i,o,l,m,n,b,h,g1,g2,g3,g4,g5,g6⟩ => by
 subst h
 obtain ⟨a1,a2,a3,a4,a5,a6,a7,rfl,h1,h2,h3,h4,h5,h6,h7⟩:=list7k hl hk
 obtain ⟨y1,rfl⟩:=h1.str
 exact ⟨_,_,_,_,_,_,_,rfl,g1.same KSlot_kept hm h2,g2.same KSlot_kept hm h3,g3.same KStr_kept hm h4,g4.same KInt_kept hm h5,g5.same KInt_kept hm h6,g6.same KStm_kept hm h7⟩
def FreeIn (lo hi : Nat) (w : World) : Prop:=∀ b o,lo ≤ b → b < hi → w.frozen? ⟨b,o,none⟩ = false
theorem BelF.freeIn {B : Nat} {w w' : World} (h : BelF B w w') : FreeIn B w'.heap.size w':=fun b o h1 h2 => by
 obtain ⟨c,t,h3⟩:=h.free b h1 h2
 simp [World.frozen?,h3]
theorem MAt.of {α : Type} {sz byt : Nat} {R : Nat → World → List Value → α → Prop} {K : Nat → Nat → World → List Value → α → Prop} {lo : Nat} {w : World} (hf : FreeIn lo w.heap.size w) (hK : ∀ cs x,R lo w cs x → K lo w.heap.size w cs x) {v : Value} {xs : List α} (h : SlAt sz byt R lo w v xs) : MAt sz K lo w.heap.size w v xs:=by
 obtain ⟨a,cap,h1,_,h2,h3⟩:=h
 refine ⟨a,cap,h1,h2,fun i hi => ?_⟩
 obtain ⟨b,o,cs,h4,h5,h6,h7,h8,h9⟩:=h3 i hi
 exact ⟨b,o,h4,h5,h6,cs,h7,fun j hj => ⟨h8 j hj,hf b _ h5 h6⟩,hK _ _ h9⟩
theorem KStr_of {lo : Nat} {w : World} (cs : List Value) (x : ByteArray) (h : RStr lo w cs x) : KStr lo w.heap.size w cs x:=⟨_,h.1⟩
theorem KInt_of {lo : Nat} {w : World} (cs : List Value) (x : Int) (h : RInt lo w cs x) : KInt lo w.heap.size w cs x:=⟨_,h.1⟩
theorem KItem_of {lo : Nat} {w : World} (cs : List Value) (x : DItem) (h : RItem lo w cs x) : KItem lo w.heap.size w cs x:=⟨_,_,_,h.1⟩
theorem KSlot_of {lo : Nat} {w : World} (cs : List Value) (x : DSlot) (h : RSlot lo w cs x) : KSlot lo w.heap.size w cs x:=⟨_,_,h.1⟩
theorem KItems_of {lo : Nat} {w : World} (hf : FreeIn lo w.heap.size w) (cs : List Value) (x : List DItem) (h : RItems lo w cs x) : KItems lo w.heap.size w cs x:=by
 obtain ⟨v,h1,h2⟩:=h
 exact ⟨v,h1,MAt.of hf KItem_of h2⟩
theorem KStm_of {lo : Nat} {w : World} (hf : FreeIn lo w.heap.size w) (cs : List Value) (x : DStm) (h : RStm lo w cs x) : KStm lo w.heap.size w cs x:=by
 obtain ⟨o,c,a,h1,_,_,_,g1,g2,g3⟩:=h
 exact ⟨_,_,_,_,_,_,h1,MAt.of hf KStr_of g1,MAt.of hf KItem_of g2,MAt.of hf (KItems_of hf) g3⟩
theorem KClass_of {lo : Nat} {w : World} (hf : FreeIn lo w.heap.size w) (cs : List Value) (x : DClass) (h : RClass lo w cs x) : KClass lo w.heap.size w cs x:=by
 obtain ⟨i,o,l,m,n,b,h1,_,g1,g2,g3,g4,g5,g6⟩:=h
 exact ⟨_,_,_,_,_,_,_,h1,MAt.of hf KSlot_of g1,MAt.of hf KSlot_of g2,MAt.of hf KStr_of g3,MAt.of hf KInt_of g4,MAt.of hf KInt_of g5,MAt.of hf (KStm_of hf) g6⟩
def mStr (_ : ByteArray) : Nat:=1
def mInt (_ : Int) : Nat:=1
def mItem (_ : DItem) : Nat:=3
def mSlot (_ : DSlot) : Nat:=2
def mItems (l : List DItem) : Nat:=wTo mItem l l.length
def mStm (t : DStm) : Nat:=3 + wTo mStr t.outs t.outs.length + wTo mItem t.code t.code.length + wTo mItems t.args t.args.length
def mClass (k : DClass) : Nat:=1 + wTo mSlot k.ins k.ins.length + wTo mSlot k.outs k.outs.length + wTo mStr k.locs k.locs.length + wTo mInt k.mems k.mems.length + wTo mInt k.insts k.insts.length + wTo mStm k.body k.body.length
theorem wTo_le {α : Type} (f : α → Nat) (xs : List α) (k : Nat) (h : k ≤ xs.length) : wTo f xs k ≤ wTo f xs xs.length:=by
 obtain ⟨d,hd⟩:=Nat.exists_eq_add_of_le h
 have : ∀ d,k + d ≤ xs.length → wTo f xs k ≤ wTo f xs (k + d):=by
  intro d
  induction d with
  | zero => intro _; exact Nat.le_refl _
  | succ d ih =>
   intro h2
   have h3:=ih (by omega)
   have h4:=wTo_succ f xs (k + d) (by omega)
   rw [show k + (d + 1) = k + d + 1 from by omega,h4]
   omega
 have h5:=this d (by omega)
 rw [← hd] at h5
 exact h5
theorem wTo_le_mul {α : Type} (f g : α → Nat) (c : Nat) (hc : ∀ x,f x ≤ c * (1 + g x)) (xs : List α) : wTo f xs xs.length ≤ c * wSum g xs:=by
 unfold wTo wSum
 rw [List.take_length]
 induction xs with
 | nil => simp
 | cons x xs ih =>
  have h1:=hc x
  simp only [List.map_cons,List.sum_cons,List.length_cons]
  rw [show xs.length + 1 + (g x + (xs.map g).sum) = (1 + g x) + (xs.length + (xs.map g).sum) from by omega,Nat.mul_add]
  omega
theorem mStr_le (xs : List ByteArray) : wTo mStr xs xs.length ≤ 8 * wSum wStr xs:=wTo_le_mul _ _ _ (fun x => by unfold mStr; omega) xs
theorem mItem_le (xs : List DItem) : wTo mItem xs xs.length ≤ 8 * wSum wItem xs:=wTo_le_mul _ _ _ (fun x => by unfold mItem; omega) xs
theorem mSlot_le (xs : List DSlot) : wTo mSlot xs xs.length ≤ 8 * wSum wSlot xs:=wTo_le_mul _ _ _ (fun x => by unfold mSlot; omega) xs
theorem mItems_le (xs : List (List DItem)) : wTo mItems xs xs.length ≤ 8 * wSum (wSum wItem) xs:=wTo_le_mul _ _ _ (fun x => by have:=mItem_le x; unfold mItems; omega) xs
theorem mInt_le (xs : List Int) : wTo mInt xs xs.length ≤ xs.length:=by
 have h:=wTo_le_mul mInt (fun _ => 0) 1 (fun x => by unfold mInt; omega) xs
 have e : wSum (fun _ : Int => 0) xs = xs.length:=by
  unfold wSum
  have h9 : ∀ l : List Int,(l.map (fun _ : Int => 0)).sum = 0:=by
   intro l
   induction l with
   | nil => rfl
   | cons x l ih => simpa using ih
  rw [h9]
  omega
 omega
theorem mStm_le (xs : List DStm) : wTo mStm xs xs.length ≤ 8 * wSum wStm xs:=wTo_le_mul _ _ _ (fun x => by
 have h1:=mStr_le x.outs
 have h2:=mItem_le x.code
 have h3:=mItems_le x.args
 unfold mStm wStm
 omega) xs
theorem mClass_le (xs : List DClass) : wTo mClass xs xs.length ≤ 8 * wSum wClass xs:=wTo_le_mul _ _ _ (fun x => by
 have h1:=mSlot_le x.ins
 have h2:=mSlot_le x.outs
 have h3:=mStr_le x.locs
 have h4:=mInt_le x.mems
 have h5:=mInt_le x.insts
 have h6:=mStm_le x.body
 unfold mClass wClass
 omega) xs
def MkPost (lo hi : Nat) (w : World) (r : Nat) (e : Ending) (w' : World) : Prop:=e = .returned (.int .i64 (r : Int)) ∧ Mk lo hi w w'
theorem conv1 (w : World) (d : Int) : (convert 122 9 (.slice (some ⟨w.heap.size,0,none⟩) 1 1)).run Tryz.prog (w.alloc (.cells #[.int .u8 d] 5)) = .ok (.string (ByteArray.empty.push (UInt8.ofNat d.toNat))) (w.alloc (.cells #[.int .u8 d] 5)):=by
 rw [run_convert_bytes_string _ _ _ _ _ _ _ Tryz.underlying122 Tryz.underlying5 Tryz.underlying9]
 refine run_bytesToString _ _ _ _ [d] ?_
 simp [loadCells,go_sem]
def dgB (n : Nat) : ByteArray:=ByteArray.empty.push (48 + UInt8.ofNat (n % 10))
def mtF : Nat → Nat → ByteArray → ByteArray
  | 0, _, s => s
  | f + 1, n, s => if n = 0 then s else mtF f (n / 10) (dgB n ++ s)
theorem mtF_more : ∀ (f g n : Nat) (s : ByteArray), n ≤ f → n ≤ g → mtF f n s = mtF g n s
  | 0, 0, _, _, _, _ => rfl
  | 0, g + 1, n, s, h, _ => by rw [mtF, mtF, if_pos (by omega)]
  | f + 1, 0, n, s, _, h => by rw [mtF, mtF, if_pos (by omega)]
  | f + 1, g + 1, n, s, h1, h2 => by
    rw [mtF, mtF]
    by_cases h : n = 0
    · rw [if_pos h, if_pos h]
    · rw [if_neg h, if_neg h, mtF_more f g _ _ (by omega) (by omega)]
def mtB (n : Nat) (s : ByteArray) : ByteArray := mtF n n s
theorem mtB_eq (n : Nat) (s : ByteArray) : mtB n s = if n = 0 then s else mtB (n / 10) (dgB n ++ s) := by
  unfold mtB
  cases n with
  | zero => rfl
  | succ n => rw [mtF, if_neg (by omega), if_neg (by omega), mtF_more n _ _ _ (by omega) (Nat.le_refl _)]
def mtText (k : Nat) : ByteArray:=if k = 0 then ⟨#[109,48]⟩ else ⟨#[109]⟩ ++ mtB k ByteArray.empty
set_option maxHeartbeats 1000000 in
theorem markText_ok (k : Nat) (w : World) (hk : k ≤ 4611686018427387904) : Calls Tryz.prog 56 #[.int .i64 (k : Int)] w (Ans (.string (mtText k)) w):=by
 have hcv:=conv1
 by_cases h0 : k = 0
 ·subst h0
  go_enter Tryz.func56,Tryz.ntmps56
  go_wp2
  go_ret
  exact ⟨rfl,Below.refl _ _⟩
 have e0 : decide ((k : Int) ≤ 0) = false:=decide_eq_false (by omega)
 have HMT : Hid (mtText k = ⟨#[109]⟩ ++ mtB k ByteArray.empty):=by
  refine hide ?_
  unfold mtText
  rw [if_neg h0]
 generalize mtText k = R at *
 go_enter Tryz.func56,Tryz.ntmps56
 go_wp2
 go_loopg [0,3] k (fun g kk o wr => ∃ (n : Nat) (s : ByteArray),n ≤ k ∧ g = n ∧ kk = .int .i64 (n : Int) ∧ o = .string s ∧ Hid (mtB n s = mtB k ByteArray.empty) ∧ s.size + n ≤ k ∧ Below w.heap.size w wr)
 case atStart => exact ⟨k,_,Nat.le_refl _,rfl,rfl,rfl,rfl,(by show 0 + k ≤ k; omega),Below.refl _ _⟩
 case round =>
  obtain ⟨n,s,hn,hg,rfl,rfl,hm,hsz,hbl⟩:=hrel
  have HG:=hide hg
  have HBL:=hide hbl
  have hs:=hbl.size
  clear hg hbl
  by_cases hz : n = 0
  ·have HE : Hid (s = mtB k ByteArray.empty):=by
    refine hide ?_
    have h9:=uh hm
    rw [hz] at h9
    rw [← h9]
    rfl
   have f1 : decide (0 < (n : Int)) = false:=decide_eq_false (by omega)
   have f2 : decide (0 < n) = false:=decide_eq_false (by omega)
   clear hm hz
   go_wp2
   all_goals
    go_ret
    refine ⟨?_,uh HBL⟩
    rw [uh HMT,uh HE]
    rfl
  ·have f1 : decide (0 < (n : Int)) = true:=decide_eq_true (by omega)
   have HS : Hid (mtB (n / 10) (ByteArray.empty.push (48 + UInt8.ofNat (n % 10)) ++ s) = mtB k ByteArray.empty):=by
    refine hide ?_
    rw [← uh hm]
    rw [mtB_eq n s, if_neg hz]
    rfl
   clear hm
   have HSZ:=hide hsz
   go_wp2
   go_roundg (n / 10)
   case measure => have:=uh HG; omega
   case rel => exact ⟨n / 10,_,by omega,rfl,by go_num,rfl,HS,(by rw [ByteArray.size_append,ByteArray.size_push]; have:=uh HSZ; have h3 : ByteArray.empty.size = 0:=rfl; omega),(uh HBL).alloc hs _⟩
theorem markText_at (K : Int) (k : Nat) (w : World) (hK : K = (k : Int)) (hk : k ≤ 4611686018427387904) : Calls Tryz.prog 56 #[.int .i64 K] w (Ans (.string (mtText k)) w):=by
 subst hK
 exact markText_ok k w hk
set_option maxHeartbeats 1000000 in
theorem markStringS_ok (xs : List ByteArray) (v : Value) (K : Int) (k r lo hi : Nat) (w : World) (hK : K = (k : Int)) (hr : k + wTo mStr xs xs.length = r) (hrb : r ≤ 1000000000) (hv : MAt 1 KStr lo hi w v xs) (hhi : hi ≤ w.heap.size) :
  Calls Tryz.prog 58 #[v,.int .i64 K] w (MkPost lo hi w r):=by
 subst hK
 obtain ⟨a,cap,rfl,hn,hx⟩:=hv
 unfold Len at hn
 have HX:=hide hx
 have HWL:=hide (fun q hq => wTo_le mStr xs q hq)
 have HHI:=hide hhi
 have HR:=hide hr
 have HRB:=hide hrb
 clear hx hhi hr hrb
 go_enter Tryz.func58,Tryz.ntmps58
 go_wp2
 go_loopg [1,5] xs.length (fun g kk i wr => ∃ (q kq : Nat),q ≤ xs.length ∧ g = xs.length - q ∧ i = .int .i64 q ∧ kk = .int .i64 (kq : Int) ∧ Hid (k + wTo mStr xs q = kq) ∧ Hid (Mk lo hi w wr))
 case atStart => exact ⟨0,k,Nat.zero_le _,by omega,rfl,rfl,by rw [wTo_zero]; rfl,Mk.refl _ _ _⟩
 case round =>
  obtain ⟨q,kq,hq,hg,rfl,rfl,HKQ,HMK⟩:=hrel
  have HG:=hide hg
  clear hg
  by_cases hlt : q < xs.length
  ·obtain ⟨b,o,rfl,hel⟩:=uh HX q hlt
   have hel:=hel.stays KStr_kept (uh HMK)
   have hst : k + wTo mStr xs (q + 1) = kq + mStr xs[q]:=by
    rw [wTo_succ _ _ _ hlt,← uh HKQ]
    omega
   have hkb : kq + mStr xs[q] ≤ 1000000000:=by
    have h1:=uh HWL (q + 1) (by omega)
    have h2:=uh HR
    have h3:=uh HRB
    omega
   generalize xs[q] = x at hel hst hkb
   have em : mStr x = 1:=rfl
   rw [em] at hst hkb
   have HST:=hide hst
   have HEL:=hide hel
   have hh0 : hi ≤ wr.heap.size:=Nat.le_trans (uh HHI) (uh HMK).size
   have R0:=hide (Mk.refl lo hi wr)
   clear hst hel em
   obtain ⟨hlo,hbh,cs,hcs,hc,⟨s0,rfl⟩⟩:=(uh HEL).stays KStr_kept (uh R0)
   clear hc hcs
   go_wp2_with fail
   refine (markText_at _ (kq + 0) _ (by omega) (by omega)).mono ?_
   rintro e w1 ⟨rfl,hb⟩
   have seg : Mk lo hi wr w1:=Mk.then (Mk.refl lo hi wr) hb hh0
   have R1:=hide ((uh R0).trans seg)
   have hh1 : hi ≤ w1.heap.size:=Nat.le_trans hh0 seg.size
   clear hb seg
   clear hlo hbh
   obtain ⟨hlo,hbh,cs,hcs,hc,⟨s0,rfl⟩⟩:=(uh HEL).stays KStr_kept (uh R1)
   have c0:=(hc 0 (by simp)).1
   have f0:=(hc 0 (by simp)).2
   simp only [Nat.mul_one,Nat.add_zero,List.getElem_cons_zero,List.getElem_cons_succ] at c0 f0
   clear hc hcs
   go_wp2
   go_roundg (xs.length - (q + 1))
   case measure => have:=uh HG; omega
   case rel => exact ⟨q + 1,kq + 1,by omega,rfl,by go_num,by go_num,(by refine hide ?_; have:=uh HST; omega),(by refine hide ?_; exact (uh HMK).trans ((uh R1).trans ((Mk.refl lo hi w1).setCell hlo hbh c0 (Kind2.strs _ _))))⟩
  ·have e : q = xs.length:=by omega
   have HE : Hid (kq = r):=by
    refine hide ?_
    rw [← uh HKQ,← uh HR,e]
   clear e
   go_wp2
   go_ret
   exact ⟨(by rw [uh HE]; rfl),uh HMK⟩
set_option maxHeartbeats 1000000 in
theorem markIntS_ok (xs : List Int) (v : Value) (K : Int) (k r lo hi : Nat) (w : World) (hK : K = (k : Int)) (hr : k + wTo mInt xs xs.length = r) (hrb : r ≤ 1000000000) (hv : MAt 1 KInt lo hi w v xs) (hhi : hi ≤ w.heap.size) :
  Calls Tryz.prog 21 #[v,.int .i64 K] w (MkPost lo hi w r):=by
 subst hK
 obtain ⟨a,cap,rfl,hn,hx⟩:=hv
 unfold Len at hn
 have HX:=hide hx
 have HWL:=hide (fun q hq => wTo_le mInt xs q hq)
 have HHI:=hide hhi
 have HR:=hide hr
 have HRB:=hide hrb
 clear hx hhi hr hrb
 go_enter Tryz.func21,Tryz.ntmps21
 go_wp2
 go_loopg [1,5] xs.length (fun g kk i wr => ∃ (q kq : Nat),q ≤ xs.length ∧ g = xs.length - q ∧ i = .int .i64 q ∧ kk = .int .i64 (kq : Int) ∧ Hid (k + wTo mInt xs q = kq) ∧ Hid (Mk lo hi w wr))
 case atStart => exact ⟨0,k,Nat.zero_le _,by omega,rfl,rfl,by rw [wTo_zero]; rfl,Mk.refl _ _ _⟩
 case round =>
  obtain ⟨q,kq,hq,hg,rfl,rfl,HKQ,HMK⟩:=hrel
  have HG:=hide hg
  clear hg
  by_cases hlt : q < xs.length
  ·obtain ⟨b,o,rfl,hel⟩:=uh HX q hlt
   have hel:=hel.stays KInt_kept (uh HMK)
   have hst : k + wTo mInt xs (q + 1) = kq + mInt xs[q]:=by
    rw [wTo_succ _ _ _ hlt,← uh HKQ]
    omega
   have hkb : kq + mInt xs[q] ≤ 1000000000:=by
    have h1:=uh HWL (q + 1) (by omega)
    have h2:=uh HR
    have h3:=uh HRB
    omega
   generalize xs[q] = x at hel hst hkb
   have em : mInt x = 1:=rfl
   rw [em] at hst hkb
   have HST:=hide hst
   have HEL:=hide hel
   have hh0 : hi ≤ wr.heap.size:=Nat.le_trans (uh HHI) (uh HMK).size
   have R0:=hide (Mk.refl lo hi wr)
   clear hst hel em
   obtain ⟨hlo,hbh,cs,hcs,hc,⟨s0,rfl⟩⟩:=(uh HEL).stays KInt_kept (uh R0)
   have c0:=(hc 0 (by simp)).1
   have f0:=(hc 0 (by simp)).2
   simp only [Nat.mul_one,Nat.add_zero,List.getElem_cons_zero,List.getElem_cons_succ] at c0 f0
   clear hc hcs
   go_wp2
   go_roundg (xs.length - (q + 1))
   case measure => have:=uh HG; omega
   case rel => exact ⟨q + 1,kq + 1,by omega,rfl,by go_num,by go_num,(by refine hide ?_; have:=uh HST; omega),(by refine hide ?_; exact (uh HMK).trans ((uh R0).trans ((Mk.refl lo hi wr).setCell hlo hbh c0 (Kind2.ints _ _))))⟩
  ·have e : q = xs.length:=by omega
   have HE : Hid (kq = r):=by
    refine hide ?_
    rw [← uh HKQ,← uh HR,e]
   clear e
   go_wp2
   go_ret
   exact ⟨(by rw [uh HE]; rfl),uh HMK⟩
set_option maxHeartbeats 1000000 in
theorem markItemS_ok (xs : List DItem) (v : Value) (K : Int) (k r lo hi : Nat) (w : World) (hK : K = (k : Int)) (hr : k + wTo mItem xs xs.length = r) (hrb : r ≤ 1000000000) (hv : MAt 3 KItem lo hi w v xs) (hhi : hi ≤ w.heap.size) :
  Calls Tryz.prog 85 #[v,.int .i64 K] w (MkPost lo hi w r):=by
 subst hK
 obtain ⟨a,cap,rfl,hn,hx⟩:=hv
 unfold Len at hn
 have HX:=hide hx
 have HWL:=hide (fun q hq => wTo_le mItem xs q hq)
 have HHI:=hide hhi
 have HR:=hide hr
 have HRB:=hide hrb
 clear hx hhi hr hrb
 go_enter Tryz.func85,Tryz.ntmps85
 go_wp2
 go_loopg [1,5] xs.length (fun g kk i wr => ∃ (q kq : Nat),q ≤ xs.length ∧ g = xs.length - q ∧ i = .int .i64 q ∧ kk = .int .i64 (kq : Int) ∧ Hid (k + wTo mItem xs q = kq) ∧ Hid (Mk lo hi w wr))
 case atStart => exact ⟨0,k,Nat.zero_le _,by omega,rfl,rfl,by rw [wTo_zero]; rfl,Mk.refl _ _ _⟩
 case round =>
  obtain ⟨q,kq,hq,hg,rfl,rfl,HKQ,HMK⟩:=hrel
  have HG:=hide hg
  clear hg
  by_cases hlt : q < xs.length
  ·obtain ⟨b,o,rfl,hel⟩:=uh HX q hlt
   have hel:=hel.stays KItem_kept (uh HMK)
   have hst : k + wTo mItem xs (q + 1) = kq + mItem xs[q]:=by
    rw [wTo_succ _ _ _ hlt,← uh HKQ]
    omega
   have hkb : kq + mItem xs[q] ≤ 1000000000:=by
    have h1:=uh HWL (q + 1) (by omega)
    have h2:=uh HR
    have h3:=uh HRB
    omega
   generalize xs[q] = x at hel hst hkb
   have em : mItem x = 3:=rfl
   rw [em] at hst hkb
   have HST:=hide hst
   have HEL:=hide hel
   have hh0 : hi ≤ wr.heap.size:=Nat.le_trans (uh HHI) (uh HMK).size
   have R0:=hide (Mk.refl lo hi wr)
   clear hst hel em
   obtain ⟨hlo,hbh,cs,hcs,hc,⟨s0,s1,s2,rfl⟩⟩:=(uh HEL).stays KItem_kept (uh R0)
   have c0:=(hc 0 (by simp)).1
   have f0:=(hc 0 (by simp)).2
   have c1:=(hc 1 (by simp)).1
   have f1:=(hc 1 (by simp)).2
   simp only [Nat.mul_one,Nat.add_zero,List.getElem_cons_zero,List.getElem_cons_succ] at c0 f0 c1 f1
   clear hc hcs
   go_wp2_with fail
   refine (markText_at _ (kq + 2) _ (by omega) (by omega)).mono ?_
   rintro e w1 ⟨rfl,hb⟩
   have seg : Mk lo hi wr w1:=Mk.then (((Mk.refl lo hi wr).setCell hlo hbh c0 (Kind2.ints _ _)).setCell hlo hbh (by rw [cell_set_other _ _ _ _ _ (Or.inr (by simp))]; exact c1) (Kind2.ints _ _)) hb hh0
   have R1:=hide ((uh R0).trans seg)
   have hh1 : hi ≤ w1.heap.size:=Nat.le_trans hh0 seg.size
   clear hb seg
   clear c0 f0 c1 f1
   clear hlo hbh
   obtain ⟨hlo,hbh,cs,hcs,hc,⟨s0,s1,s2,rfl⟩⟩:=(uh HEL).stays KItem_kept (uh R1)
   have c2:=(hc 2 (by simp)).1
   have f2:=(hc 2 (by simp)).2
   simp only [Nat.mul_one,Nat.add_zero,List.getElem_cons_zero,List.getElem_cons_succ] at c2 f2
   clear hc hcs
   go_wp2
   go_roundg (xs.length - (q + 1))
   case measure => have:=uh HG; omega
   case rel => exact ⟨q + 1,kq + 3,by omega,rfl,by go_num,by go_num,(by refine hide ?_; have:=uh HST; omega),(by refine hide ?_; exact (uh HMK).trans ((uh R1).trans ((Mk.refl lo hi w1).setCell hlo hbh c2 (Kind2.strs _ _))))⟩
  ·have e : q = xs.length:=by omega
   have HE : Hid (kq = r):=by
    refine hide ?_
    rw [← uh HKQ,← uh HR,e]
   clear e
   go_wp2
   go_ret
   exact ⟨(by rw [uh HE]; rfl),uh HMK⟩
set_option maxHeartbeats 1000000 in
theorem markSlotS_ok (xs : List DSlot) (v : Value) (K : Int) (k r lo hi : Nat) (w : World) (hK : K = (k : Int)) (hr : k + wTo mSlot xs xs.length = r) (hrb : r ≤ 1000000000) (hv : MAt 2 KSlot lo hi w v xs) (hhi : hi ≤ w.heap.size) :
  Calls Tryz.prog 57 #[v,.int .i64 K] w (MkPost lo hi w r):=by
 subst hK
 obtain ⟨a,cap,rfl,hn,hx⟩:=hv
 unfold Len at hn
 have HX:=hide hx
 have HWL:=hide (fun q hq => wTo_le mSlot xs q hq)
 have HHI:=hide hhi
 have HR:=hide hr
 have HRB:=hide hrb
 clear hx hhi hr hrb
 go_enter Tryz.func57,Tryz.ntmps57
 go_wp2
 go_loopg [1,5] xs.length (fun g kk i wr => ∃ (q kq : Nat),q ≤ xs.length ∧ g = xs.length - q ∧ i = .int .i64 q ∧ kk = .int .i64 (kq : Int) ∧ Hid (k + wTo mSlot xs q = kq) ∧ Hid (Mk lo hi w wr))
 case atStart => exact ⟨0,k,Nat.zero_le _,by omega,rfl,rfl,by rw [wTo_zero]; rfl,Mk.refl _ _ _⟩
 case round =>
  obtain ⟨q,kq,hq,hg,rfl,rfl,HKQ,HMK⟩:=hrel
  have HG:=hide hg
  clear hg
  by_cases hlt : q < xs.length
  ·obtain ⟨b,o,rfl,hel⟩:=uh HX q hlt
   have hel:=hel.stays KSlot_kept (uh HMK)
   have hst : k + wTo mSlot xs (q + 1) = kq + mSlot xs[q]:=by
    rw [wTo_succ _ _ _ hlt,← uh HKQ]
    omega
   have hkb : kq + mSlot xs[q] ≤ 1000000000:=by
    have h1:=uh HWL (q + 1) (by omega)
    have h2:=uh HR
    have h3:=uh HRB
    omega
   generalize xs[q] = x at hel hst hkb
   have em : mSlot x = 2:=rfl
   rw [em] at hst hkb
   have HST:=hide hst
   have HEL:=hide hel
   have hh0 : hi ≤ wr.heap.size:=Nat.le_trans (uh HHI) (uh HMK).size
   have R0:=hide (Mk.refl lo hi wr)
   clear hst hel em
   obtain ⟨hlo,hbh,cs,hcs,hc,⟨s0,s1,rfl⟩⟩:=(uh HEL).stays KSlot_kept (uh R0)
   clear hc hcs
   go_wp2_with fail
   refine (markText_at _ (kq + 0) _ (by omega) (by omega)).mono ?_
   rintro e w1 ⟨rfl,hb⟩
   have seg : Mk lo hi wr w1:=Mk.then (Mk.refl lo hi wr) hb hh0
   have R1:=hide ((uh R0).trans seg)
   have hh1 : hi ≤ w1.heap.size:=Nat.le_trans hh0 seg.size
   clear hb seg
   clear hlo hbh
   obtain ⟨hlo,hbh,cs,hcs,hc,⟨s0,s1,rfl⟩⟩:=(uh HEL).stays KSlot_kept (uh R1)
   have c0:=(hc 0 (by simp)).1
   have f0:=(hc 0 (by simp)).2
   have c1:=(hc 1 (by simp)).1
   have f1:=(hc 1 (by simp)).2
   simp only [Nat.mul_one,Nat.add_zero,List.getElem_cons_zero,List.getElem_cons_succ] at c0 f0 c1 f1
   clear hc hcs
   go_wp2
   go_roundg (xs.length - (q + 1))
   case measure => have:=uh HG; omega
   case rel => exact ⟨q + 1,kq + 2,by omega,rfl,by go_num,by go_num,(by refine hide ?_; have:=uh HST; omega),(by refine hide ?_; exact (uh HMK).trans ((uh R1).trans (((Mk.refl lo hi w1).setCell hlo hbh c0 (Kind2.strs _ _)).setCell hlo hbh (by rw [cell_set_other _ _ _ _ _ (Or.inr (by simp))]; exact c1) (Kind2.ints _ _))))⟩
  ·have e : q = xs.length:=by omega
   have HE : Hid (kq = r):=by
    refine hide ?_
    rw [← uh HKQ,← uh HR,e]
   clear e
   go_wp2
   go_ret
   exact ⟨(by rw [uh HE]; rfl),uh HMK⟩
set_option maxHeartbeats 1000000 in
theorem markItemSS_ok (xs : List (List DItem)) (v : Value) (K : Int) (k r lo hi : Nat) (w : World) (hK : K = (k : Int)) (hr : k + wTo mItems xs xs.length = r) (hrb : r ≤ 1000000000) (hv : MAt 1 KItems lo hi w v xs) (hhi : hi ≤ w.heap.size) :
  Calls Tryz.prog 86 #[v,.int .i64 K] w (MkPost lo hi w r):=by
 subst hK
 obtain ⟨a,cap,rfl,hn,hx⟩:=hv
 unfold Len at hn
 have HX:=hide hx
 have HWL:=hide (fun q hq => wTo_le mItems xs q hq)
 have HHI:=hide hhi
 have HR:=hide hr
 have HRB:=hide hrb
 clear hx hhi hr hrb
 go_enter Tryz.func86,Tryz.ntmps86
 go_wp2
 go_loopg [1,5] xs.length (fun g kk i wr => ∃ (q kq : Nat),q ≤ xs.length ∧ g = xs.length - q ∧ i = .int .i64 q ∧ kk = .int .i64 (kq : Int) ∧ Hid (k + wTo mItems xs q = kq) ∧ Hid (Mk lo hi w wr))
 case atStart => exact ⟨0,k,Nat.zero_le _,by omega,rfl,rfl,by rw [wTo_zero]; rfl,Mk.refl _ _ _⟩
 case round =>
  obtain ⟨q,kq,hq,hg,rfl,rfl,HKQ,HMK⟩:=hrel
  have HG:=hide hg
  clear hg
  by_cases hlt : q < xs.length
  ·obtain ⟨b,o,rfl,hel⟩:=uh HX q hlt
   have hel:=hel.stays KItems_kept (uh HMK)
   have hst : k + wTo mItems xs (q + 1) = kq + mItems xs[q]:=by
    rw [wTo_succ _ _ _ hlt,← uh HKQ]
    omega
   have hkb : kq + mItems xs[q] ≤ 1000000000:=by
    have h1:=uh HWL (q + 1) (by omega)
    have h2:=uh HR
    have h3:=uh HRB
    omega
   generalize xs[q] = x at hel hst hkb
   have em : mItems x = wTo mItem x x.length:=rfl
   rw [em] at hst hkb
   have HST:=hide hst
   have HEL:=hide hel
   have hh0 : hi ≤ wr.heap.size:=Nat.le_trans (uh HHI) (uh HMK).size
   have R0:=hide (Mk.refl lo hi wr)
   clear hst hel em
   obtain ⟨hlo,hbh,cs,hcs,hc,⟨v0,rfl,g0⟩⟩:=(uh HEL).stays KItems_kept (uh R0)
   have c0:=(hc 0 (by simp)).1
   have f0:=(hc 0 (by simp)).2
   simp only [Nat.mul_one,Nat.add_zero,List.getElem_cons_zero,List.getElem_cons_succ] at c0 f0
   obtain ⟨sa0,sc0,rfl⟩:=g0.shape
   have G0:=hide g0
   clear g0
   clear hc hcs
   obtain ⟨r1,hr1⟩ : ∃ r,kq + 0 + wTo mItem x (x).length = r:=⟨_,rfl⟩
   have hrb1 : r1 ≤ 1000000000:=by omega
   have HR1:=hide hr1
   clear hr1
   go_wp2_with fail
   refine (markItemS_ok _ _ _ (kq + 0) r1 lo hi _ (by omega) (uh HR1) hrb1 ((uh G0).stays KItem_kept (Mk.refl lo hi wr)) (Nat.le_trans hh0 (Mk.size (Mk.refl lo hi wr)))).mono ?_
   rintro e w1 ⟨rfl,hm⟩
   have seg : Mk lo hi wr w1:=Mk.trans (Mk.refl lo hi wr) hm
   have R1:=hide ((uh R0).trans seg)
   have hh1 : hi ≤ w1.heap.size:=Nat.le_trans hh0 seg.size
   clear hm seg
   clear c0 f0
   clear G0
   clear hlo hbh
   go_wp2
   go_roundg (xs.length - (q + 1))
   case measure => have:=uh HG; omega
   case rel => exact ⟨q + 1,r1 + 0,by omega,rfl,by go_num,by go_num,(by refine hide ?_; have:=uh HST; have:=uh HR1; omega),(by refine hide ?_; exact (uh HMK).trans ((uh R1).trans (Mk.refl lo hi w1)))⟩
  ·have e : q = xs.length:=by omega
   have HE : Hid (kq = r):=by
    refine hide ?_
    rw [← uh HKQ,← uh HR,e]
   clear e
   go_wp2
   go_ret
   exact ⟨(by rw [uh HE]; rfl),uh HMK⟩
set_option maxHeartbeats 1000000 in
theorem markStmS_ok (xs : List DStm) (v : Value) (K : Int) (k r lo hi : Nat) (w : World) (hK : K = (k : Int)) (hr : k + wTo mStm xs xs.length = r) (hrb : r ≤ 1000000000) (hv : MAt 6 KStm lo hi w v xs) (hhi : hi ≤ w.heap.size) :
  Calls Tryz.prog 59 #[v,.int .i64 K] w (MkPost lo hi w r):=by
 subst hK
 obtain ⟨a,cap,rfl,hn,hx⟩:=hv
 unfold Len at hn
 have HX:=hide hx
 have HWL:=hide (fun q hq => wTo_le mStm xs q hq)
 have HHI:=hide hhi
 have HR:=hide hr
 have HRB:=hide hrb
 clear hx hhi hr hrb
 go_enter Tryz.func59,Tryz.ntmps59
 go_wp2
 go_loopg [1,5] xs.length (fun g kk i wr => ∃ (q kq : Nat),q ≤ xs.length ∧ g = xs.length - q ∧ i = .int .i64 q ∧ kk = .int .i64 (kq : Int) ∧ Hid (k + wTo mStm xs q = kq) ∧ Hid (Mk lo hi w wr))
 case atStart => exact ⟨0,k,Nat.zero_le _,by omega,rfl,rfl,by rw [wTo_zero]; rfl,Mk.refl _ _ _⟩
 case round =>
  obtain ⟨q,kq,hq,hg,rfl,rfl,HKQ,HMK⟩:=hrel
  have HG:=hide hg
  clear hg
  by_cases hlt : q < xs.length
  ·obtain ⟨b,o,rfl,hel⟩:=uh HX q hlt
   have hel:=hel.stays KStm_kept (uh HMK)
   have hst : k + wTo mStm xs (q + 1) = kq + mStm xs[q]:=by
    rw [wTo_succ _ _ _ hlt,← uh HKQ]
    omega
   have hkb : kq + mStm xs[q] ≤ 1000000000:=by
    have h1:=uh HWL (q + 1) (by omega)
    have h2:=uh HR
    have h3:=uh HRB
    omega
   generalize xs[q] = x at hel hst hkb
   have em : mStm x = 3 + wTo mStr x.outs x.outs.length + wTo mItem x.code x.code.length + wTo mItems x.args x.args.length:=rfl
   rw [em] at hst hkb
   have HST:=hide hst
   have HEL:=hide hel
   have hh0 : hi ≤ wr.heap.size:=Nat.le_trans (uh HHI) (uh HMK).size
   have R0:=hide (Mk.refl lo hi wr)
   clear hst hel em
   obtain ⟨hlo,hbh,cs,hcs,hc,⟨s0,s1,s2,v3,v4,v5,rfl,g3,g4,g5⟩⟩:=(uh HEL).stays KStm_kept (uh R0)
   have c0:=(hc 0 (by simp)).1
   have f0:=(hc 0 (by simp)).2
   simp only [Nat.mul_one,Nat.add_zero,List.getElem_cons_zero,List.getElem_cons_succ] at c0 f0
   obtain ⟨sa3,sc3,rfl⟩:=g3.shape
   have G3:=hide g3
   clear g3
   obtain ⟨sa4,sc4,rfl⟩:=g4.shape
   have G4:=hide g4
   clear g4
   obtain ⟨sa5,sc5,rfl⟩:=g5.shape
   have G5:=hide g5
   clear g5
   clear hc hcs
   go_wp2_with fail
   refine (markText_at _ (kq + 1) _ (by omega) (by omega)).mono ?_
   rintro e w1 ⟨rfl,hb⟩
   have seg : Mk lo hi wr w1:=Mk.then ((Mk.refl lo hi wr).setCell hlo hbh c0 (Kind2.ints _ _)) hb hh0
   have R1:=hide ((uh R0).trans seg)
   have hh1 : hi ≤ w1.heap.size:=Nat.le_trans hh0 seg.size
   clear hb seg
   clear c0 f0
   clear G3 G4 G5
   clear hlo hbh
   obtain ⟨hlo,hbh,cs,hcs,hc,⟨s0,s1,s2,v3,v4,v5,rfl,g3,g4,g5⟩⟩:=(uh HEL).stays KStm_kept (uh R1)
   have c1:=(hc 1 (by simp)).1
   have f1:=(hc 1 (by simp)).2
   have c2:=(hc 2 (by simp)).1
   have f2:=(hc 2 (by simp)).2
   have c3:=(hc 3 (by simp)).1
   have f3:=(hc 3 (by simp)).2
   simp only [Nat.mul_one,Nat.add_zero,List.getElem_cons_zero,List.getElem_cons_succ] at c1 f1 c2 f2 c3 f3
   obtain ⟨sa3,sc3,rfl⟩:=g3.shape
   have G3:=hide g3
   clear g3
   obtain ⟨sa4,sc4,rfl⟩:=g4.shape
   have G4:=hide g4
   clear g4
   obtain ⟨sa5,sc5,rfl⟩:=g5.shape
   have G5:=hide g5
   clear g5
   clear hc hcs
   obtain ⟨r2,hr2⟩ : ∃ r,kq + 3 + wTo mStr x.outs (x.outs).length = r:=⟨_,rfl⟩
   have hrb2 : r2 ≤ 1000000000:=by omega
   have HR2:=hide hr2
   clear hr2
   go_wp2_with fail
   refine (markStringS_ok _ _ _ (kq + 3) r2 lo hi _ (by omega) (uh HR2) hrb2 ((uh G3).stays KStr_kept (((Mk.refl lo hi w1).setCell hlo hbh c1 (Kind2.strs _ _)).setCell hlo hbh (by rw [cell_set_other _ _ _ _ _ (Or.inr (by simp))]; exact c2) (Kind2.ints _ _))) (Nat.le_trans hh1 (Mk.size (((Mk.refl lo hi w1).setCell hlo hbh c1 (Kind2.strs _ _)).setCell hlo hbh (by rw [cell_set_other _ _ _ _ _ (Or.inr (by simp))]; exact c2) (Kind2.ints _ _))))).mono ?_
   rintro e w2 ⟨rfl,hm⟩
   have seg : Mk lo hi w1 w2:=Mk.trans (((Mk.refl lo hi w1).setCell hlo hbh c1 (Kind2.strs _ _)).setCell hlo hbh (by rw [cell_set_other _ _ _ _ _ (Or.inr (by simp))]; exact c2) (Kind2.ints _ _)) hm
   have R2:=hide ((uh R1).trans seg)
   have hh2 : hi ≤ w2.heap.size:=Nat.le_trans hh1 seg.size
   clear hm seg
   clear c1 f1 c2 f2 c3 f3
   clear G3 G4 G5
   clear hlo hbh
   obtain ⟨hlo,hbh,cs,hcs,hc,⟨s0,s1,s2,v3,v4,v5,rfl,g3,g4,g5⟩⟩:=(uh HEL).stays KStm_kept (uh R2)
   have c4:=(hc 4 (by simp)).1
   have f4:=(hc 4 (by simp)).2
   simp only [Nat.mul_one,Nat.add_zero,List.getElem_cons_zero,List.getElem_cons_succ] at c4 f4
   obtain ⟨sa3,sc3,rfl⟩:=g3.shape
   have G3:=hide g3
   clear g3
   obtain ⟨sa4,sc4,rfl⟩:=g4.shape
   have G4:=hide g4
   clear g4
   obtain ⟨sa5,sc5,rfl⟩:=g5.shape
   have G5:=hide g5
   clear g5
   clear hc hcs
   obtain ⟨r3,hr3⟩ : ∃ r,r2 + 0 + wTo mItem x.code (x.code).length = r:=⟨_,rfl⟩
   have hrb3 : r3 ≤ 1000000000:=by have:=uh HR2; omega
   have HR3:=hide hr3
   clear hr3
   go_wp2_with fail
   refine (markItemS_ok _ _ _ (r2 + 0) r3 lo hi _ (by omega) (uh HR3) hrb3 ((uh G4).stays KItem_kept (Mk.refl lo hi w2)) (Nat.le_trans hh2 (Mk.size (Mk.refl lo hi w2)))).mono ?_
   rintro e w3 ⟨rfl,hm⟩
   have seg : Mk lo hi w2 w3:=Mk.trans (Mk.refl lo hi w2) hm
   have R3:=hide ((uh R2).trans seg)
   have hh3 : hi ≤ w3.heap.size:=Nat.le_trans hh2 seg.size
   clear hm seg
   clear c4 f4
   clear G3 G4 G5
   clear hlo hbh
   obtain ⟨hlo,hbh,cs,hcs,hc,⟨s0,s1,s2,v3,v4,v5,rfl,g3,g4,g5⟩⟩:=(uh HEL).stays KStm_kept (uh R3)
   have c5:=(hc 5 (by simp)).1
   have f5:=(hc 5 (by simp)).2
   simp only [Nat.mul_one,Nat.add_zero,List.getElem_cons_zero,List.getElem_cons_succ] at c5 f5
   obtain ⟨sa3,sc3,rfl⟩:=g3.shape
   have G3:=hide g3
   clear g3
   obtain ⟨sa4,sc4,rfl⟩:=g4.shape
   have G4:=hide g4
   clear g4
   obtain ⟨sa5,sc5,rfl⟩:=g5.shape
   have G5:=hide g5
   clear g5
   clear hc hcs
   obtain ⟨r4,hr4⟩ : ∃ r,r3 + 0 + wTo mItems x.args (x.args).length = r:=⟨_,rfl⟩
   have hrb4 : r4 ≤ 1000000000:=by have:=uh HR2; have:=uh HR3; omega
   have HR4:=hide hr4
   clear hr4
   go_wp2_with fail
   refine (markItemSS_ok _ _ _ (r3 + 0) r4 lo hi _ (by omega) (uh HR4) hrb4 ((uh G5).stays KItems_kept (Mk.refl lo hi w3)) (Nat.le_trans hh3 (Mk.size (Mk.refl lo hi w3)))).mono ?_
   rintro e w4 ⟨rfl,hm⟩
   have seg : Mk lo hi w3 w4:=Mk.trans (Mk.refl lo hi w3) hm
   have R4:=hide ((uh R3).trans seg)
   have hh4 : hi ≤ w4.heap.size:=Nat.le_trans hh3 seg.size
   clear hm seg
   clear c5 f5
   clear G3 G4 G5
   clear hlo hbh
   go_wp2
   go_roundg (xs.length - (q + 1))
   case measure => have:=uh HG; omega
   case rel => exact ⟨q + 1,r4 + 0,by omega,rfl,by go_num,by go_num,(by refine hide ?_; have:=uh HST; have:=uh HR2; have:=uh HR3; have:=uh HR4; omega),(by refine hide ?_; exact (uh HMK).trans ((uh R4).trans (Mk.refl lo hi w4)))⟩
  ·have e : q = xs.length:=by omega
   have HE : Hid (kq = r):=by
    refine hide ?_
    rw [← uh HKQ,← uh HR,e]
   clear e
   go_wp2
   go_ret
   exact ⟨(by rw [uh HE]; rfl),uh HMK⟩
set_option maxHeartbeats 1000000 in
theorem markClassS_ok (xs : List DClass) (v : Value) (K : Int) (k r lo hi : Nat) (w : World) (hK : K = (k : Int)) (hr : k + wTo mClass xs xs.length = r) (hrb : r ≤ 1000000000) (hv : MAt 7 KClass lo hi w v xs) (hhi : hi ≤ w.heap.size) :
  Calls Tryz.prog 37 #[v,.int .i64 K] w (MkPost lo hi w r):=by
 subst hK
 obtain ⟨a,cap,rfl,hn,hx⟩:=hv
 unfold Len at hn
 have HX:=hide hx
 have HWL:=hide (fun q hq => wTo_le mClass xs q hq)
 have HHI:=hide hhi
 have HR:=hide hr
 have HRB:=hide hrb
 clear hx hhi hr hrb
 go_enter Tryz.func37,Tryz.ntmps37
 go_wp2
 go_loopg [1,5] xs.length (fun g kk i wr => ∃ (q kq : Nat),q ≤ xs.length ∧ g = xs.length - q ∧ i = .int .i64 q ∧ kk = .int .i64 (kq : Int) ∧ Hid (k + wTo mClass xs q = kq) ∧ Hid (Mk lo hi w wr))
 case atStart => exact ⟨0,k,Nat.zero_le _,by omega,rfl,rfl,by rw [wTo_zero]; rfl,Mk.refl _ _ _⟩
 case round =>
  obtain ⟨q,kq,hq,hg,rfl,rfl,HKQ,HMK⟩:=hrel
  have HG:=hide hg
  clear hg
  by_cases hlt : q < xs.length
  ·obtain ⟨b,o,rfl,hel⟩:=uh HX q hlt
   have hel:=hel.stays KClass_kept (uh HMK)
   have hst : k + wTo mClass xs (q + 1) = kq + mClass xs[q]:=by
    rw [wTo_succ _ _ _ hlt,← uh HKQ]
    omega
   have hkb : kq + mClass xs[q] ≤ 1000000000:=by
    have h1:=uh HWL (q + 1) (by omega)
    have h2:=uh HR
    have h3:=uh HRB
    omega
   generalize xs[q] = x at hel hst hkb
   have em : mClass x = 1 + wTo mSlot x.ins x.ins.length + wTo mSlot x.outs x.outs.length + wTo mStr x.locs x.locs.length + wTo mInt x.mems x.mems.length + wTo mInt x.insts x.insts.length + wTo mStm x.body x.body.length:=rfl
   rw [em] at hst hkb
   have HST:=hide hst
   have HEL:=hide hel
   have hh0 : hi ≤ wr.heap.size:=Nat.le_trans (uh HHI) (uh HMK).size
   have R0:=hide (Mk.refl lo hi wr)
   clear hst hel em
   obtain ⟨hlo,hbh,cs,hcs,hc,⟨s0,v1,v2,v3,v4,v5,v6,rfl,g1,g2,g3,g4,g5,g6⟩⟩:=(uh HEL).stays KClass_kept (uh R0)
   obtain ⟨sa1,sc1,rfl⟩:=g1.shape
   have G1:=hide g1
   clear g1
   obtain ⟨sa2,sc2,rfl⟩:=g2.shape
   have G2:=hide g2
   clear g2
   obtain ⟨sa3,sc3,rfl⟩:=g3.shape
   have G3:=hide g3
   clear g3
   obtain ⟨sa4,sc4,rfl⟩:=g4.shape
   have G4:=hide g4
   clear g4
   obtain ⟨sa5,sc5,rfl⟩:=g5.shape
   have G5:=hide g5
   clear g5
   obtain ⟨sa6,sc6,rfl⟩:=g6.shape
   have G6:=hide g6
   clear g6
   clear hc hcs
   go_wp2_with fail
   refine (markText_at _ (kq + 0) _ (by omega) (by omega)).mono ?_
   rintro e w1 ⟨rfl,hb⟩
   have seg : Mk lo hi wr w1:=Mk.then (Mk.refl lo hi wr) hb hh0
   have R1:=hide ((uh R0).trans seg)
   have hh1 : hi ≤ w1.heap.size:=Nat.le_trans hh0 seg.size
   clear hb seg
   clear G1 G2 G3 G4 G5 G6
   clear hlo hbh
   obtain ⟨hlo,hbh,cs,hcs,hc,⟨s0,v1,v2,v3,v4,v5,v6,rfl,g1,g2,g3,g4,g5,g6⟩⟩:=(uh HEL).stays KClass_kept (uh R1)
   have c0:=(hc 0 (by simp)).1
   have f0:=(hc 0 (by simp)).2
   have c1:=(hc 1 (by simp)).1
   have f1:=(hc 1 (by simp)).2
   simp only [Nat.mul_one,Nat.add_zero,List.getElem_cons_zero,List.getElem_cons_succ] at c0 f0 c1 f1
   obtain ⟨sa1,sc1,rfl⟩:=g1.shape
   have G1:=hide g1
   clear g1
   obtain ⟨sa2,sc2,rfl⟩:=g2.shape
   have G2:=hide g2
   clear g2
   obtain ⟨sa3,sc3,rfl⟩:=g3.shape
   have G3:=hide g3
   clear g3
   obtain ⟨sa4,sc4,rfl⟩:=g4.shape
   have G4:=hide g4
   clear g4
   obtain ⟨sa5,sc5,rfl⟩:=g5.shape
   have G5:=hide g5
   clear g5
   obtain ⟨sa6,sc6,rfl⟩:=g6.shape
   have G6:=hide g6
   clear g6
   clear hc hcs
   obtain ⟨r2,hr2⟩ : ∃ r,kq + 1 + wTo mSlot x.ins (x.ins).length = r:=⟨_,rfl⟩
   have hrb2 : r2 ≤ 1000000000:=by omega
   have HR2:=hide hr2
   clear hr2
   go_wp2_with fail
   refine (markSlotS_ok _ _ _ (kq + 1) r2 lo hi _ (by omega) (uh HR2) hrb2 ((uh G1).stays KSlot_kept ((Mk.refl lo hi w1).setCell hlo hbh c0 (Kind2.strs _ _))) (Nat.le_trans hh1 (Mk.size ((Mk.refl lo hi w1).setCell hlo hbh c0 (Kind2.strs _ _))))).mono ?_
   rintro e w2 ⟨rfl,hm⟩
   have seg : Mk lo hi w1 w2:=Mk.trans ((Mk.refl lo hi w1).setCell hlo hbh c0 (Kind2.strs _ _)) hm
   have R2:=hide ((uh R1).trans seg)
   have hh2 : hi ≤ w2.heap.size:=Nat.le_trans hh1 seg.size
   clear hm seg
   clear c0 f0 c1 f1
   clear G1 G2 G3 G4 G5 G6
   clear hlo hbh
   obtain ⟨hlo,hbh,cs,hcs,hc,⟨s0,v1,v2,v3,v4,v5,v6,rfl,g1,g2,g3,g4,g5,g6⟩⟩:=(uh HEL).stays KClass_kept (uh R2)
   have c2:=(hc 2 (by simp)).1
   have f2:=(hc 2 (by simp)).2
   simp only [Nat.mul_one,Nat.add_zero,List.getElem_cons_zero,List.getElem_cons_succ] at c2 f2
   obtain ⟨sa1,sc1,rfl⟩:=g1.shape
   have G1:=hide g1
   clear g1
   obtain ⟨sa2,sc2,rfl⟩:=g2.shape
   have G2:=hide g2
   clear g2
   obtain ⟨sa3,sc3,rfl⟩:=g3.shape
   have G3:=hide g3
   clear g3
   obtain ⟨sa4,sc4,rfl⟩:=g4.shape
   have G4:=hide g4
   clear g4
   obtain ⟨sa5,sc5,rfl⟩:=g5.shape
   have G5:=hide g5
   clear g5
   obtain ⟨sa6,sc6,rfl⟩:=g6.shape
   have G6:=hide g6
   clear g6
   clear hc hcs
   obtain ⟨r3,hr3⟩ : ∃ r,r2 + 0 + wTo mSlot x.outs (x.outs).length = r:=⟨_,rfl⟩
   have hrb3 : r3 ≤ 1000000000:=by have:=uh HR2; omega
   have HR3:=hide hr3
   clear hr3
   go_wp2_with fail
   refine (markSlotS_ok _ _ _ (r2 + 0) r3 lo hi _ (by omega) (uh HR3) hrb3 ((uh G2).stays KSlot_kept (Mk.refl lo hi w2)) (Nat.le_trans hh2 (Mk.size (Mk.refl lo hi w2)))).mono ?_
   rintro e w3 ⟨rfl,hm⟩
   have seg : Mk lo hi w2 w3:=Mk.trans (Mk.refl lo hi w2) hm
   have R3:=hide ((uh R2).trans seg)
   have hh3 : hi ≤ w3.heap.size:=Nat.le_trans hh2 seg.size
   clear hm seg
   clear c2 f2
   clear G1 G2 G3 G4 G5 G6
   clear hlo hbh
   obtain ⟨hlo,hbh,cs,hcs,hc,⟨s0,v1,v2,v3,v4,v5,v6,rfl,g1,g2,g3,g4,g5,g6⟩⟩:=(uh HEL).stays KClass_kept (uh R3)
   have c3:=(hc 3 (by simp)).1
   have f3:=(hc 3 (by simp)).2
   simp only [Nat.mul_one,Nat.add_zero,List.getElem_cons_zero,List.getElem_cons_succ] at c3 f3
   obtain ⟨sa1,sc1,rfl⟩:=g1.shape
   have G1:=hide g1
   clear g1
   obtain ⟨sa2,sc2,rfl⟩:=g2.shape
   have G2:=hide g2
   clear g2
   obtain ⟨sa3,sc3,rfl⟩:=g3.shape
   have G3:=hide g3
   clear g3
   obtain ⟨sa4,sc4,rfl⟩:=g4.shape
   have G4:=hide g4
   clear g4
   obtain ⟨sa5,sc5,rfl⟩:=g5.shape
   have G5:=hide g5
   clear g5
   obtain ⟨sa6,sc6,rfl⟩:=g6.shape
   have G6:=hide g6
   clear g6
   clear hc hcs
   obtain ⟨r4,hr4⟩ : ∃ r,r3 + 0 + wTo mStr x.locs (x.locs).length = r:=⟨_,rfl⟩
   have hrb4 : r4 ≤ 1000000000:=by have:=uh HR2; have:=uh HR3; omega
   have HR4:=hide hr4
   clear hr4
   go_wp2_with fail
   refine (markStringS_ok _ _ _ (r3 + 0) r4 lo hi _ (by omega) (uh HR4) hrb4 ((uh G3).stays KStr_kept (Mk.refl lo hi w3)) (Nat.le_trans hh3 (Mk.size (Mk.refl lo hi w3)))).mono ?_
   rintro e w4 ⟨rfl,hm⟩
   have seg : Mk lo hi w3 w4:=Mk.trans (Mk.refl lo hi w3) hm
   have R4:=hide ((uh R3).trans seg)
   have hh4 : hi ≤ w4.heap.size:=Nat.le_trans hh3 seg.size
   clear hm seg
   clear c3 f3
   clear G1 G2 G3 G4 G5 G6
   clear hlo hbh
   obtain ⟨hlo,hbh,cs,hcs,hc,⟨s0,v1,v2,v3,v4,v5,v6,rfl,g1,g2,g3,g4,g5,g6⟩⟩:=(uh HEL).stays KClass_kept (uh R4)
   have c4:=(hc 4 (by simp)).1
   have f4:=(hc 4 (by simp)).2
   simp only [Nat.mul_one,Nat.add_zero,List.getElem_cons_zero,List.getElem_cons_succ] at c4 f4
   obtain ⟨sa1,sc1,rfl⟩:=g1.shape
   have G1:=hide g1
   clear g1
   obtain ⟨sa2,sc2,rfl⟩:=g2.shape
   have G2:=hide g2
   clear g2
   obtain ⟨sa3,sc3,rfl⟩:=g3.shape
   have G3:=hide g3
   clear g3
   obtain ⟨sa4,sc4,rfl⟩:=g4.shape
   have G4:=hide g4
   clear g4
   obtain ⟨sa5,sc5,rfl⟩:=g5.shape
   have G5:=hide g5
   clear g5
   obtain ⟨sa6,sc6,rfl⟩:=g6.shape
   have G6:=hide g6
   clear g6
   clear hc hcs
   obtain ⟨r5,hr5⟩ : ∃ r,r4 + 0 + wTo mInt x.mems (x.mems).length = r:=⟨_,rfl⟩
   have hrb5 : r5 ≤ 1000000000:=by have:=uh HR2; have:=uh HR3; have:=uh HR4; omega
   have HR5:=hide hr5
   clear hr5
   go_wp2_with fail
   refine (markIntS_ok _ _ _ (r4 + 0) r5 lo hi _ (by omega) (uh HR5) hrb5 ((uh G4).stays KInt_kept (Mk.refl lo hi w4)) (Nat.le_trans hh4 (Mk.size (Mk.refl lo hi w4)))).mono ?_
   rintro e w5 ⟨rfl,hm⟩
   have seg : Mk lo hi w4 w5:=Mk.trans (Mk.refl lo hi w4) hm
   have R5:=hide ((uh R4).trans seg)
   have hh5 : hi ≤ w5.heap.size:=Nat.le_trans hh4 seg.size
   clear hm seg
   clear c4 f4
   clear G1 G2 G3 G4 G5 G6
   clear hlo hbh
   obtain ⟨hlo,hbh,cs,hcs,hc,⟨s0,v1,v2,v3,v4,v5,v6,rfl,g1,g2,g3,g4,g5,g6⟩⟩:=(uh HEL).stays KClass_kept (uh R5)
   have c5:=(hc 5 (by simp)).1
   have f5:=(hc 5 (by simp)).2
   simp only [Nat.mul_one,Nat.add_zero,List.getElem_cons_zero,List.getElem_cons_succ] at c5 f5
   obtain ⟨sa1,sc1,rfl⟩:=g1.shape
   have G1:=hide g1
   clear g1
   obtain ⟨sa2,sc2,rfl⟩:=g2.shape
   have G2:=hide g2
   clear g2
   obtain ⟨sa3,sc3,rfl⟩:=g3.shape
   have G3:=hide g3
   clear g3
   obtain ⟨sa4,sc4,rfl⟩:=g4.shape
   have G4:=hide g4
   clear g4
   obtain ⟨sa5,sc5,rfl⟩:=g5.shape
   have G5:=hide g5
   clear g5
   obtain ⟨sa6,sc6,rfl⟩:=g6.shape
   have G6:=hide g6
   clear g6
   clear hc hcs
   obtain ⟨r6,hr6⟩ : ∃ r,r5 + 0 + wTo mInt x.insts (x.insts).length = r:=⟨_,rfl⟩
   have hrb6 : r6 ≤ 1000000000:=by have:=uh HR2; have:=uh HR3; have:=uh HR4; have:=uh HR5; omega
   have HR6:=hide hr6
   clear hr6
   go_wp2_with fail
   refine (markIntS_ok _ _ _ (r5 + 0) r6 lo hi _ (by omega) (uh HR6) hrb6 ((uh G5).stays KInt_kept (Mk.refl lo hi w5)) (Nat.le_trans hh5 (Mk.size (Mk.refl lo hi w5)))).mono ?_
   rintro e w6 ⟨rfl,hm⟩
   have seg : Mk lo hi w5 w6:=Mk.trans (Mk.refl lo hi w5) hm
   have R6:=hide ((uh R5).trans seg)
   have hh6 : hi ≤ w6.heap.size:=Nat.le_trans hh5 seg.size
   clear hm seg
   clear c5 f5
   clear G1 G2 G3 G4 G5 G6
   clear hlo hbh
   obtain ⟨hlo,hbh,cs,hcs,hc,⟨s0,v1,v2,v3,v4,v5,v6,rfl,g1,g2,g3,g4,g5,g6⟩⟩:=(uh HEL).stays KClass_kept (uh R6)
   have c6:=(hc 6 (by simp)).1
   have f6:=(hc 6 (by simp)).2
   simp only [Nat.mul_one,Nat.add_zero,List.getElem_cons_zero,List.getElem_cons_succ] at c6 f6
   obtain ⟨sa1,sc1,rfl⟩:=g1.shape
   have G1:=hide g1
   clear g1
   obtain ⟨sa2,sc2,rfl⟩:=g2.shape
   have G2:=hide g2
   clear g2
   obtain ⟨sa3,sc3,rfl⟩:=g3.shape
   have G3:=hide g3
   clear g3
   obtain ⟨sa4,sc4,rfl⟩:=g4.shape
   have G4:=hide g4
   clear g4
   obtain ⟨sa5,sc5,rfl⟩:=g5.shape
   have G5:=hide g5
   clear g5
   obtain ⟨sa6,sc6,rfl⟩:=g6.shape
   have G6:=hide g6
   clear g6
   clear hc hcs
   obtain ⟨r7,hr7⟩ : ∃ r,r6 + 0 + wTo mStm x.body (x.body).length = r:=⟨_,rfl⟩
   have hrb7 : r7 ≤ 1000000000:=by have:=uh HR2; have:=uh HR3; have:=uh HR4; have:=uh HR5; have:=uh HR6; omega
   have HR7:=hide hr7
   clear hr7
   go_wp2_with fail
   refine (markStmS_ok _ _ _ (r6 + 0) r7 lo hi _ (by omega) (uh HR7) hrb7 ((uh G6).stays KStm_kept (Mk.refl lo hi w6)) (Nat.le_trans hh6 (Mk.size (Mk.refl lo hi w6)))).mono ?_
   rintro e w7 ⟨rfl,hm⟩
   have seg : Mk lo hi w6 w7:=Mk.trans (Mk.refl lo hi w6) hm
   have R7:=hide ((uh R6).trans seg)
   have hh7 : hi ≤ w7.heap.size:=Nat.le_trans hh6 seg.size
   clear hm seg
   clear c6 f6
   clear G1 G2 G3 G4 G5 G6
   clear hlo hbh
   go_wp2
   go_roundg (xs.length - (q + 1))
   case measure => have:=uh HG; omega
   case rel => exact ⟨q + 1,r7 + 0,by omega,rfl,by go_num,by go_num,(by refine hide ?_; have:=uh HST; have:=uh HR2; have:=uh HR3; have:=uh HR4; have:=uh HR5; have:=uh HR6; have:=uh HR7; omega),(by refine hide ?_; exact (uh HMK).trans ((uh R7).trans (Mk.refl lo hi w7)))⟩
  ·have e : q = xs.length:=by omega
   have HE : Hid (kq = r):=by
    refine hide ?_
    rw [← uh HKQ,← uh HR,e]
   clear e
   go_wp2
   go_ret
   exact ⟨(by rw [uh HE]; rfl),uh HMK⟩
def RowI (w : World) (v : Value) (n : Nat) : Prop:=∃ a cap,v = .slice a n cap ∧ n ≤ 1000000 ∧ (0 < n → ∃ g,a = some ⟨g,0,none⟩ ∧ RowAt w g n)
def Marked (w : World) (v : Value) (n k : Nat) : Prop:=∃ a cap,v = .slice a n cap ∧ n ≤ 1000000 ∧ ∀ i,i < n → ∃ g,a = some ⟨g,0,none⟩ ∧ w.cell? ⟨g,i,none⟩ = some (.int .i64 ((k + i : Nat) : Int))
def OneTurned (v : Value) (w w' : World) : Prop:=w'.os = w.os ∧ w'.tape = w.tape ∧ w'.output = w.output ∧ w.heap.size ≤ w'.heap.size ∧ ∀ k,k < w.heap.size → v.ownBlock ≠ some k → w'.heap[k]? = w.heap[k]?
set_option maxHeartbeats 1000000 in
theorem markInts_exact (v : Value) (n k r : Nat) (w : World) (hv : RowI w v n) (hk : k ≤ 1000000000) (hr : k + n = r) :
  Calls Tryz.prog 21 #[v,.int .i64 (k : Int)] w (fun e w' => e = .returned (.int .i64 (r : Int)) ∧ Marked w' v n k ∧ OneTurned v w w'):=by
 obtain ⟨a,cap,rfl,hn,hrow⟩:=hv
 have HR:=hide hr
 clear hr
 by_cases h0 : n = 0
 ·subst h0
  have HE : Hid (r = k):=by have:=uh HR; refine hide ?_; omega
  clear hrow HR
  go_enter Tryz.func21,Tryz.ntmps21
  go_wp2
  go_loopg [1,5] 0 (fun g kk i wr => i = .int .i64 0 ∧ kk = .int .i64 (k : Int) ∧ wr = w)
  case atStart => exact ⟨rfl,rfl,rfl⟩
  case round =>
   obtain ⟨rfl,rfl,hw⟩:=hrel
   subst hw
   go_wp2
   go_ret
   exact ⟨(by rw [uh HE]; rfl),⟨_,_,rfl,by omega,fun i hi => absurd hi (Nat.not_lt_zero _)⟩,rfl,rfl,rfl,Nat.le_refl _,fun _ _ _ => rfl⟩
 obtain ⟨g,rfl,hrw⟩:=hrow (by omega)
 have HROW:=hide hrw
 clear hrw hrow h0
 go_enter Tryz.func21,Tryz.ntmps21
 go_wp2
 go_loopg [1,5] n (fun gh kk i wr => ∃ (q kq : Nat),q ≤ n ∧ gh = n - q ∧ i = .int .i64 q ∧ kk = .int .i64 (kq : Int) ∧ Hid (k + q = kq) ∧ kq ≤ 1001000000 ∧ Hid (RowAt wr g n) ∧ Hid (∀ i,i < q → wr.cell? ⟨g,i,none⟩ = some (.int .i64 ((k + i : Nat) : Int))) ∧ Hid (OneTurned (.slice (some ⟨g,0,none⟩) n cap) w wr))
 case atStart => exact ⟨0,k,Nat.zero_le _,by omega,rfl,rfl,rfl,by omega,HROW,fun i hi => absurd hi (Nat.not_lt_zero _),rfl,rfl,rfl,Nat.le_refl _,fun _ _ _ => rfl⟩
 case round =>
  obtain ⟨q,kq,hq,hg,rfl,rfl,HKQ,hkb,HRW,HCL,HOT⟩:=hrel
  have HG:=hide hg
  clear hg
  by_cases hlt : q < n
  ·obtain ⟨u,c0⟩:=(uh HRW).cell hlt
   have f0:=(uh HRW).frozen q
   have H1:=hide ((uh HRW).set q (.int .i64 (kq : Int)))
   have H2 : Hid (∀ i,i < q + 1 → (wr.setCell ⟨g,q,none⟩ (.int .i64 (kq : Int))).cell? ⟨g,i,none⟩ = some (.int .i64 ((k + i : Nat) : Int))):=fun i hi => by
    by_cases e : i = q
    ·subst e
     rw [cell_set_self (uh HRW) hlt,uh HKQ]
    ·rw [cell_set_other _ _ _ _ _ (Or.inr e)]
     exact uh HCL i (by omega)
   have H3 : Hid (OneTurned (.slice (some ⟨g,0,none⟩) n cap) w (wr.setCell ⟨g,q,none⟩ (.int .i64 (kq : Int)))):=by
    obtain ⟨t1,t2,t3,t4,t5⟩:=uh HOT
    refine hide ⟨t1,t2,t3,by simpa [World.setCell] using t4,fun i hi hne => ?_⟩
    rw [Below.heap_setCell _ _ _ _ (fun e => hne (by rw [e]; rfl))]
    exact t5 i hi hne
   have hkb2 : kq < 1001000000:=by have:=uh HKQ; omega
   go_wp2
   go_roundg (n - (q + 1))
   case measure => have:=uh HG; omega
   case rel => exact ⟨q + 1,kq + 1,by omega,rfl,by go_num,by go_num,(by refine hide ?_; have:=uh HKQ; omega),by omega,H1,H2,H3⟩
  ·have e : q = n:=by omega
   have HE : Hid (r = kq):=by have:=uh HR; have:=uh HKQ; refine hide ?_; omega
   have HD : Hid (Marked wr (.slice (some ⟨g,0,none⟩) n cap) n k):=⟨_,_,rfl,hn,fun i hi => ⟨g,rfl,uh HCL i (by omega)⟩⟩
   clear e
   go_wp2
   go_ret
   exact ⟨(by rw [uh HE]; rfl),uh HD,uh HOT⟩
set_option maxHeartbeats 1000000 in
theorem heldInts_exact (v : Value) (n k r : Nat) (w : World) (hv : Marked w v n k) (hk : k ≤ 1000000000) (hr : k + n = r) :
  Calls Tryz.prog 22 #[v,.int .i64 (k : Int)] w (Ans (.int .i64 (r : Int)) w):=by
 obtain ⟨a,cap,rfl,hn,hrow⟩:=hv
 have HR:=hide hr
 have HROW:=hide hrow
 clear hr hrow
 go_enter Tryz.func22,Tryz.ntmps22
 go_wp2
 go_loopg [1,5] n (fun gh kk i wr => ∃ (q kq : Nat),q ≤ n ∧ gh = n - q ∧ i = .int .i64 q ∧ kk = .int .i64 (kq : Int) ∧ Hid (k + q = kq) ∧ kq ≤ 1001000000 ∧ wr = w)
 case atStart => exact ⟨0,k,Nat.zero_le _,by omega,rfl,rfl,rfl,by omega,rfl⟩
 case round =>
  obtain ⟨q,kq,hq,hg,rfl,rfl,HKQ,hkb,hw⟩:=hrel
  subst hw
  have HG:=hide hg
  clear hg
  by_cases hlt : q < n
  ·obtain ⟨g,rfl,c0⟩:=uh HROW q hlt
   rw [uh HKQ] at c0
   have hkb2 : kq < 1001000000:=by have:=uh HKQ; omega
   go_wp2
   go_roundg (n - (q + 1))
   case measure => have:=uh HG; omega
   case rel => exact ⟨q + 1,kq + 1,by omega,rfl,by go_num,by go_num,(by refine hide ?_; have:=uh HKQ; omega),by omega,rfl⟩
  ·have HE : Hid (r = kq):=by have:=uh HR; have:=uh HKQ; refine hide ?_; omega
   go_wp2
   go_ret
   exact ⟨(by rw [uh HE]; rfl),Below.refl _ _⟩
theorem markInts_one (v : Value) (n r : Nat) (w : World) (hv : RowI w v n) (hr : 1 + n = r) :
  Calls Tryz.prog 21 #[v,.int .i64 1] w (fun e w' => e = .returned (.int .i64 (r : Int)) ∧ Marked w' v n 1 ∧ OneTurned v w w'):=markInts_exact v n 1 r w hv (by omega) hr
theorem heldInts_one (v : Value) (n r : Nat) (w : World) (hv : Marked w v n 1) (hr : 1 + n = r) :
  Calls Tryz.prog 22 #[v,.int .i64 1] w (Ans (.int .i64 (r : Int)) w):=heldInts_exact v n 1 r w hv (by omega) hr
end Go.Proofs.YtjjldnkhadakcaaGreat
