import Derived.Test.YtjjldnkhadakcaaGreatData
import Derived.Test.YtjjldnkhadakcaaGreatMData
import Derived.Test.YtjjldnkhadakcaaGreatChars
import Derived.Test.YtjjldnkhadakcaaGreatMI22
import Derived.Test.YtjjldnkhadakcaaGreatM15
import Derived.Test.YtjjldnkhadakcaaGreatMI24
import Derived.Test.YtjjldnkhadakcaaGreatMk
namespace Go.Proofs.YtjjldnkhadakcaaGreat
open Go.RowKit
set_option linter.unusedSimpArgs false
set_option linter.unusedVariables false
def sTo (F : Nat → List Int) (mems insts : List Int) (q : Nat) : List Int:=mems ++ (insts.take q).flatMap (fun g => F g.toNat)
theorem sTo_zero (F : Nat → List Int) (mems insts : List Int) : sTo F mems insts 0 = mems:=by simp [sTo]
theorem sTo_succ (F : Nat → List Int) (mems insts : List Int) (q : Nat) (hq : q < insts.length) : sTo F mems insts (q + 1) = sTo F mems insts q ++ F insts[q].toNat:=by
 unfold sTo
 rw [List.take_succ_eq_append_getElem hq,List.flatMap_append,List.append_assoc]
 simp
structure RS (ks : List DClass) (F : Nat → List Int) : Prop where
 eq : ∀ i (hi : i < ks.length),F i = sTo F ks[i].mems ks[i].insts ks[i].insts.length
 len : ∀ i,i < ks.length → (F i).length ≤ 20000
 val : ∀ i,i < ks.length → ∀ x,x ∈ F i → I64 x
 ins : ∀ i (hi : i < ks.length),(ks[i].mems.length ≤ 1000 ∧ ks[i].insts.length ≤ 1000) ∧ ∀ q (hq : q < ks[i].insts.length),0 ≤ ks[i].insts[q] ∧ ks[i].insts[q] < (i : Int)
theorem sTo_len (F : Nat → List Int) (mems insts : List Int) (q : Nat) (hq : q ≤ insts.length) : (sTo F mems insts q).length ≤ (sTo F mems insts insts.length).length:=by
 obtain ⟨d,hd⟩:=Nat.exists_eq_add_of_le hq
 have : ∀ d,q + d ≤ insts.length → (sTo F mems insts q).length ≤ (sTo F mems insts (q + d)).length:=by
  intro d
  induction d with
  | zero => intro _; exact Nat.le_refl _
  | succ d ih =>
   intro h2
   have h3:=ih (by omega)
   rw [show q + (d + 1) = q + d + 1 from by omega,sTo_succ _ _ _ _ (by omega),List.length_append]
   omega
 have h5:=this d (by omega)
 rw [← hd] at h5
 exact h5
def fAt (ks : List DClass) (i : Nat) : List Int:=match ks[i]? with | some k => firstTo (fTo ks i) k.mems k.insts k.insts.length | none => []
theorem fTo_get (ks : List DClass) (n j : Nat) (h : j < n) : (fTo ks n).getD j [] = fAt ks j:=by
 induction n with
 | zero => omega
 | succ n ih =>
  by_cases e : j = n
  ·subst e
   rw [fTo,List.getD_eq_getElem?_getD,List.getElem?_append_right (by rw [fTo_len]; exact Nat.le_refl _),fTo_len,Nat.sub_self]
   rfl
  ·rw [fTo,List.getD_eq_getElem?_getD,List.getElem?_append_left (by rw [fTo_len]; omega),← List.getD_eq_getElem?_getD]
   exact ih (by omega)
theorem fAt_eq (ks : List DClass) (i : Nat) (hi : i < ks.length) : fAt ks i = firstTo (fTo ks i) ks[i].mems ks[i].insts ks[i].insts.length:=by
 unfold fAt
 rw [List.getElem?_eq_getElem hi]
def V32 (x : Int) : Prop:=-2147483648 ≤ x ∧ x ≤ 2147483647
structure FOK (ks : List DClass) : Prop where
 len : ∀ i,i < ks.length → (fAt ks i).length ≤ 20000
 val : ∀ i,i < ks.length → ∀ x,x ∈ fAt ks i → V32 x
 ins : ∀ i (hi : i < ks.length),(ks[i].mems.length ≤ 1000 ∧ ks[i].insts.length ≤ 1000) ∧ ∀ q (hq : q < ks[i].insts.length),0 ≤ ks[i].insts[q] ∧ ks[i].insts[q] < (i : Int)
theorem own_at (ks : List DClass) (h : plansB ks = true) (i : Nat) (hi : i < ks.length) : ownB (fTo ks i) ks[i] = true:=by
 unfold plansB at h
 rw [Bool.and_eq_true,List.all_eq_true] at h
 have h1:=h.2 i (List.mem_range.2 hi)
 unfold okAt at h1
 rw [List.getElem?_eq_getElem hi] at h1
 simp only [Bool.and_eq_true] at h1
 have h2:=h1.1
 unfold planB at h2
 simp only [Bool.and_eq_true] at h2
 exact h2.2.2.1
theorem fok_of (ks : List DClass) (h : plansB ks = true) : FOK ks:=by
 have hins : ∀ i (hi : i < ks.length),(ks[i].mems.length ≤ 1000 ∧ ks[i].insts.length ≤ 1000) ∧ ∀ q (hq : q < ks[i].insts.length),0 ≤ ks[i].insts[q] ∧ ks[i].insts[q] < (i : Int):=fun i hi => by
  obtain ⟨h1,_,h3,_⟩:=(own_iff _ _).1 (own_at ks h i hi)
  refine ⟨h1,fun q hq => ?_⟩
  have h4:=of_decide_eq_true (List.all_eq_true.1 h3 _ (List.getElem_mem hq))
  rw [fTo_len] at h4
  exact h4
 refine ⟨fun i hi => ?_,fun i => ?_,hins⟩
 ·obtain ⟨_,_,_,h4⟩:=(own_iff _ _).1 (own_at ks h i hi)
  rw [fAt_eq ks i hi]
  exact h4
 ·induction i using Nat.strongRecOn with
  | ind i ih =>
   intro hi x hx
   rw [fAt_eq ks i hi] at hx
   unfold firstTo at hx
   rcases List.mem_append.1 hx with hx | hx
   ·have h2:=own_at ks h i hi
    unfold ownB at h2
    simp only [Bool.and_eq_true] at h2
    have h5:=of_decide_eq_true (List.all_eq_true.1 h2.2.1 _ hx)
    unfold V32
    omega
   ·rw [List.take_length] at hx
    obtain ⟨g,hg,hx⟩:=List.mem_flatMap.1 hx
    obtain ⟨q,hq,rfl⟩:=List.getElem_of_mem hg
    obtain ⟨h6,h7⟩:=(hins i hi).2 q hq
    rw [fTo_get ks i _ (by omega)] at hx
    exact ih _ (by omega) (by omega) x hx
theorem first_s (ks : List DClass) (i : Nat) (mems insts : List Int) (hin : ∀ q (hq : q < insts.length),0 ≤ insts[q] ∧ insts[q] < (i : Int)) (q : Nat) (hq : q ≤ insts.length) : firstTo (fTo ks i) mems insts q = sTo (fAt ks) mems insts q:=by
 induction q with
 | zero => rw [firstTo_zero,sTo_zero]
 | succ q ih =>
  obtain ⟨h1,h2⟩:=hin q (by omega)
  rw [firstTo_succ _ _ _ _ (by omega),sTo_succ _ _ _ _ (by omega),ih (by omega),fTo_get ks i _ (by omega)]
theorem rs_of (ks : List DClass) (h : plansB ks = true) : RS ks (fAt ks):=by
 have hf:=fok_of ks h
 refine ⟨fun i hi => ?_,hf.len,fun i hi x hx => ?_,hf.ins⟩
 ·rw [fAt_eq ks i hi]
  exact first_s ks i _ _ (hf.ins i hi).2 _ (Nat.le_refl _)
 ·have:=hf.val i hi x hx
  unfold V32 at this
  unfold I64
  omega
theorem plans_of_has (ks : List DClass) (c : Int) (h : hasB ks c = true) : plansB ks = true ∧ 0 ≤ c ∧ c < (ks.length : Int):=by
 unfold hasB at h
 rw [← plans_mach,Bool.and_eq_true,Bool.and_eq_true] at h
 exact ⟨h.1.1,of_decide_eq_true h.2⟩
theorem nil_ints (w : World) (a : Option Addr) (c : Nat) (lo : Nat) : SlAt 1 8 RInt lo w (.slice a 0 c) []:=⟨a,c,rfl,⟨by unfold Len; simp,Nat.zero_le _⟩,by unfold Len; simp,fun i hi => absurd hi (Nat.not_lt_zero _)⟩
theorem info_wide : (Tryz.prog.info? 3).map (fun i => (i.zero,i.size,i.bytes)) = some (some (.int .i64 0),1,8):=by kernel_rfl
end Go.Proofs.YtjjldnkhadakcaaGreat
