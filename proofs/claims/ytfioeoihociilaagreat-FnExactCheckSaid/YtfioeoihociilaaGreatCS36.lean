import Derived.Test.YtfioeoihociilaaGreatCS35
namespace Go.Proofs.YtfioeoihociilaaGreat
open Go.RowKit Go.Shelf
set_option linter.unusedSimpArgs false
set_option linter.unusedVariables false
attribute [local go_sem] Oper.semAt_some
theorem readAtOnce_ok (sb qb qo : Nat) (w : World) : Calls Tryz.prog 93 #[.pointer (some ⟨sb,0,none⟩),.pointer (some ⟨qb,qo,none⟩)] w fun e w' => e = .returned (.func (.func 118) #[] #[.pointer (some ⟨w.heap.size,0,none⟩),.pointer (some ⟨w.heap.size + 1,0,none⟩)]) ∧ w' = (w.alloc (.cells #[.pointer (some ⟨sb,0,none⟩)] 47)).alloc (.cells #[.pointer (some ⟨qb,qo,none⟩)] 128):=by
 go_enter Tryz.func93,Tryz.ntmps93
 go_wp2
 go_ret
 exact ⟨rfl,rfl⟩
theorem rao_stops (W0 w : World) (nv : Value) (vs : List DVar) (G : List Int) (sb vb : Nat) (ov : Value) (D : List Nat) (C L : List DCond → Option Nat) (N : Nat) (e : DEq) (qb qo Bs Be mb : Nat) (h : RaIn W0 w nv vs G sb vb ov D C L N e qb qo Bs Be mb) (n : Nat) (hn : 1 ≤ n) :
  SeqStopsK Fence.wide n Tryz.prog 118 #[.pointer (some ⟨Bs,0,none⟩),.pointer (some ⟨Be,0,none⟩)] (fun x : NmIn (rdP vs e) => #[Value.string x.1]) (KpM w.heap.size mb) (fun xs => AllIn (rdP vs e) xs) (fun _ => True) ((firstV vs e).clock.length + 3000 * (codesOf e).length) w:=fun l J Jx W hW hJ _ hY h0 => by
 refine (rao_in W0 W nv vs G sb vb ov D C L N e qb qo Bs Be mb (h.below hW) w.heap.size h.sc.old.size hW.size n l hn J Jx hJ hY h0).mono ?_
 rintro e' W' ⟨h1,h2 | ⟨pre,h3⟩⟩
 ·exact ⟨h1,.inl h2⟩
 ·exact ⟨h1,.inr ⟨pre,trivial,h3⟩⟩
def Tg (E : Nat → Nat → Prop) (a b : Nat) : Prop := ∀ P : Nat → Prop, (∀ b, E a b → P b) → (∀ b c, P b → E b c → P c) → P b
theorem Tg.one {E : Nat → Nat → Prop} {a b : Nat} (h : E a b) : Tg E a b := fun _ f _ => f b h
theorem Tg.snoc {E : Nat → Nat → Prop} {a b c : Nat} (h : Tg E a b) (k : E b c) : Tg E a c := fun P f g => g b c (h P f g) k
theorem Tg.ind {E : Nat → Nat → Prop} {a : Nat} {motive : ∀ b, Tg E a b → Prop} (one : ∀ {b : Nat} (h : E a b), motive b (Tg.one h)) (snoc : ∀ {b c : Nat} (h : Tg E a b) (k : E b c), motive b h → motive c (Tg.snoc h k)) {b : Nat} (t : Tg E a b) : motive b t := by
  obtain ⟨_, k⟩ := t (fun b => ∃ h : Tg E a b, motive b h) (fun b h => ⟨_, one h⟩) (fun b c ⟨h1, k1⟩ k => ⟨_, snoc h1 k k1⟩)
  exact k
theorem Tg.trans {E : Nat → Nat → Prop} {a b c : Nat} (h : Tg E a b) (k : Tg E b c) : Tg E a c:=by
 induction k using Tg.ind with
 | one k => exact .snoc h k
 | snoc _ k ih => exact .snoc ih k
theorem Tg.head {E : Nat → Nat → Prop} {a c : Nat} (h : Tg E a c) : ∃ b,E a b ∧ (b = c ∨ Tg E b c):=by
 induction h using Tg.ind with
 | one h => exact ⟨_,h,Or.inl rfl⟩
 | snoc h k ih =>
  obtain ⟨b,h1,h2⟩:=ih
  rcases h2 with rfl | h2
  ·exact ⟨_,h1,Or.inr (.one k)⟩
  ·exact ⟨b,h1,Or.inr (.snoc h2 k)⟩
def mkA (M : List Int) (i : Nat) : Int:=M.getD i 3
structure MInv (E : Nat → Nat → Prop) (n : Nat) (M : List Int) : Prop where
 len : M.length = n
 val : ∀ i,i < n → mkA M i = 0 ∨ mkA M i = 1 ∨ mkA M i = 2
 cls : ∀ u,u < n → mkA M u = 2 → ∀ v,E u v → v < n ∧ mkA M v = 2
 acy : ∀ u,u < n → mkA M u = 2 → ¬ Tg E u u
def zs (M : List Int) : Nat:=M.countP (fun m => m == 0)
theorem mk_set (M : List Int) (e i : Nat) (x : Int) (he : e < M.length) : mkA (M.set e x) i = if i = e then x else mkA M i:=by
 unfold mkA
 rw [List.getD_eq_getElem?_getD,List.getD_eq_getElem?_getD]
 by_cases c : i = e
 ·subst c
  rw [if_pos rfl,List.getElem?_set_self he]
  rfl
 ·rw [if_neg c,List.getElem?_set_ne (fun h => c h.symm)]
theorem zs_set (M : List Int) (e : Nat) (x : Int) (he : e < M.length) (h0 : mkA M e = 0) (hx : x ≠ 0) : zs (M.set e x) + 1 = zs M:=by
 unfold zs mkA at *
 induction M generalizing e with
 | nil => simp at he
 | cons m r ih =>
  cases e with
  | zero =>
   have hm : m = 0:=by simpa using h0
   have hxx : (x == 0) = false:=by rw [beq_eq_false_iff_ne]; exact hx
   rw [List.set_cons_zero,List.countP_cons,List.countP_cons,hm,hxx]
   simp
  | succ e =>
   have h9:=ih e (by simpa using he) (by simpa using h0)
   rw [List.set_cons_succ,List.countP_cons,List.countP_cons]
   omega
theorem zs_le (M : List Int) (e : Nat) (x : Int) (hx : x ≠ 0) : zs (M.set e x) ≤ zs M:=by
 unfold zs
 induction M generalizing e with
 | nil => simp
 | cons m r ih =>
  have hxx : (x == 0) = false:=by rw [beq_eq_false_iff_ne]; exact hx
  cases e with
  | zero => rw [List.set_cons_zero,List.countP_cons,List.countP_cons,hxx]; simp
  | succ e =>
   have h9:=ih e
   rw [List.set_cons_succ,List.countP_cons,List.countP_cons]
   omega
theorem tg_black {E : Nat → Nat → Prop} {n : Nat} {M : List Int} (h : MInv E n M) {a b : Nat} (ht : Tg E a b) (ha : a < n) (hm : mkA M a = 2) : b < n ∧ mkA M b = 2:=by
 induction ht using Tg.ind with
 | one k => exact h.cls _ ha hm _ k
 | snoc _ k ih =>
  obtain ⟨h1,h2⟩:=ih
  exact h.cls _ h1 h2 _ k
structure MStep (n : Nat) (M M' : List Int) : Prop where
 gray : ∀ i,i < n → (mkA M i = 1 ↔ mkA M' i = 1)
 black : ∀ i,i < n → mkA M i = 2 → mkA M' i = 2
 zero : zs M' ≤ zs M
theorem MStep.refl (n : Nat) (M : List Int) : MStep n M M:=⟨fun _ _ => Iff.rfl,fun _ _ h => h,Nat.le_refl _⟩
theorem MStep.trans {n : Nat} {A B C : List Int} (h : MStep n A B) (k : MStep n B C) : MStep n A C:=⟨fun i hi => (h.gray i hi).trans (k.gray i hi),fun i hi h9 => k.black i hi (h.black i hi h9),Nat.le_trans k.zero h.zero⟩
theorem MInv.enter {E : Nat → Nat → Prop} {n : Nat} {M : List Int} (h : MInv E n M) {e : Nat} (he : e < n) (h0 : mkA M e = 0) : MInv E n (M.set e 1):=by
 have hl : e < M.length:=by rw [h.len]; exact he
 refine ⟨by rw [List.length_set]; exact h.len,fun i hi => ?_,fun u hu hm v hv => ?_,fun u hu hm => ?_⟩
 ·rw [mk_set M e i 1 hl]
  split
  ·exact Or.inr (Or.inl rfl)
  ·exact h.val i hi
 ·rw [mk_set M e u 1 hl] at hm
  by_cases c : u = e
  ·rw [if_pos c] at hm; omega
  ·rw [if_neg c] at hm
   obtain ⟨h1,h2⟩:=h.cls u hu hm v hv
   refine ⟨h1,?_⟩
   rw [mk_set M e v 1 hl]
   by_cases c2 : v = e
   ·rw [c2,h0] at h2; omega
   ·rw [if_neg c2]; exact h2
 ·rw [mk_set M e u 1 hl] at hm
  by_cases c : u = e
  ·rw [if_pos c] at hm; omega
  ·rw [if_neg c] at hm
   exact h.acy u hu hm
theorem MInv.leave {E : Nat → Nat → Prop} {n : Nat} {M : List Int} (h : MInv E n M) {e : Nat} (he : e < n) (h1 : mkA M e = 1) (hs : ∀ v,E e v → v < n ∧ mkA M v = 2) : MInv E n (M.set e 2):=by
 have hl : e < M.length:=by rw [h.len]; exact he
 have hb : ∀ v,mkA M v = 2 → mkA (M.set e 2) v = 2:=fun v hv => by
  rw [mk_set M e v 2 hl]
  split
  ·rfl
  ·exact hv
 refine ⟨by rw [List.length_set]; exact h.len,fun i hi => ?_,fun u hu hm v hv => ?_,fun u hu hm => ?_⟩
 ·rw [mk_set M e i 2 hl]
  split
  ·exact Or.inr (Or.inr rfl)
  ·exact h.val i hi
 ·by_cases c : u = e
  ·subst c
   obtain ⟨g1,g2⟩:=hs v hv
   exact ⟨g1,hb v g2⟩
  ·rw [mk_set M e u 2 hl,if_neg c] at hm
   obtain ⟨g1,g2⟩:=h.cls u hu hm v hv
   exact ⟨g1,hb v g2⟩
 ·by_cases c : u = e
  ·subst c
   intro ht
   obtain ⟨b,k1,k2⟩:=ht.head
   obtain ⟨g1,g2⟩:=hs b k1
   rcases k2 with rfl | k2
   ·omega
   ·have:=(tg_black h k2 g1 g2).2
    omega
  ·rw [mk_set M e u 2 hl,if_neg c] at hm
   exact h.acy u hu hm
theorem MStep.done {E : Nat → Nat → Prop} {n : Nat} {M M' : List Int} (h : MInv E n M) {e : Nat} (he : e < n) (h0 : mkA M e = 0) (k : MStep n (M.set e 1) M') (hl' : M'.length = n) : MStep n M (M'.set e 2):=by
 have hl : e < M.length:=by rw [h.len]; exact he
 refine ⟨fun i hi => ?_,fun i hi h9 => ?_,?_⟩
 ·have h8:=k.gray i hi
  rw [mk_set M e i 1 hl] at h8
  rw [mk_set M' e i 2 (by omega)]
  by_cases c : i = e
  ·subst c
   rw [if_pos rfl,h0]
   constructor <;> intro h <;> omega
  ·rw [if_neg c] at h8 ⊢
   exact h8
 ·rw [mk_set M' e i 2 (by omega)]
  by_cases c : i = e
  ·rw [if_pos c]
  ·rw [if_neg c]
   refine k.black i hi ?_
   rw [mk_set M e i 1 hl,if_neg c]
   exact h9
 ·have h1:=zs_le M' e 2 (by decide)
  have h2:=k.zero
  have h3:=zs_le M e 1 (by decide)
  omega
end Go.Proofs.YtfioeoihociilaaGreat
