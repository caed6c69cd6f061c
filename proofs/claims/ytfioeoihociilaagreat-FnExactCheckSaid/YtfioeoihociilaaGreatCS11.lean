import Derived.Test.YtfioeoihociilaaGreatCS6
import Derived.Test.YtfioeoihociilaaGreatOwnF
import Derived.Test.YtfioeoihociilaaGreatApp
namespace Go.Proofs.YtfioeoihociilaaGreat
open Go.RowKit
set_option linter.unusedSimpArgs false
set_option linter.unusedVariables false
def tyUnd (c : Int) (us : List Int) : Int:=if c = 2 then (if us.all (fun u => u == us.headD 0) then us.headD 0 else 0) else 0
set_option maxHeartbeats 1000000 in
theorem typeUnder_ok (c : Int) (us : List Int) (w : World) (oa : Option Addr) (oc : Nat) (ho : ∀ k (hk : k < us.length),∃ b o,oa = some ⟨b,o,none⟩ ∧ w.cell? ⟨b,o + k,none⟩ = some (.int .i64 us[k])) (hl : us.length ≤ 1000000) (h0 : 0 < us.length) :
  Calls Tryz.prog 141 #[.int .i64 c,.slice oa us.length oc] w (fun e w' => e = .returned (.int .i64 (tyUnd c us)) ∧ ∃ n,w' = w.drewN n):=by
 unfold tyUnd
 by_cases hc : c = 2
 ·rw [if_pos hc]
  subst hc
  have HTF:=hide (fun (w' : World) (a : Int) (h9 : ∀ k (hk : k < us.length),∃ b o,oa = some ⟨b,o,none⟩ ∧ w'.cell? ⟨b,o + k,none⟩ = some (.int .i64 us[k])) => typeFrom_ok us a a w' oa oc h9 hl)
  have HO:=hide ho
  obtain ⟨b,o,hoe,k0⟩:=ho 0 h0
  have e0 : us[0] = us.headD 0:=by
   cases us with
   | nil => simp at h0
   | cons u r => rfl
  rw [e0] at k0
  have h0I : (0 : Int) < (us.length : Int):=by omega
  subst hoe
  rw [Nat.add_zero] at k0
  generalize us.headD 0 = u0 at *
  clear ho e0
  obtain ⟨R,hR⟩ : ∃ R : Int,R = (if us.all (fun u => u == u0) then u0 else 0):=⟨_,rfl⟩
  rw [← hR]
  have HT2 : Hid (Calls Tryz.prog 140 #[.slice (some ⟨b,o,none⟩) us.length oc,.int .i64 u0,.int .i64 u0] w.drew fun e w' => e = .returned (.int .i64 R) ∧ w' = w.drew):=by
   rw [hR]
   exact hide (uh HTF w.drew u0 (uh HO))
  clear HTF HO hR
  go_enter Tryz.func141,Tryz.ntmps141
  go_wp2_with fail
  go_region_held3 (fun w' => w'.cell? ⟨b,o,none⟩ = some (.int .i64 u0)) (go_keep) (first | (go_at_call 140; refine (uh HT2).mono ?_; rintro e w1 ⟨rfl,rfl⟩))
  go_wp2
  go_ret
  exact ⟨rfl,1,rfl⟩
 ·rw [if_neg hc]
  have hne : (c == 2) = false:=by rw [beq_eq_false_iff_ne]; exact hc
  have hnn : (c != 2) = true:=by rw [bne_iff_ne]; exact hc
  clear ho
  go_enter Tryz.func141,Tryz.ntmps141
  go_wp2
  go_ret
  exact ⟨rfl,0,rfl⟩
def rtF (vs : List DVar) (t : DItem) (us : List Int) : Int :=
 if t.op = 1 then 1 else if t.op = 2 then 2 else if t.op = 3 then (lookV vs t.name).type
 else if t.op = 5 ∨ (17 ≤ t.op ∧ t.op ≤ 19) ∨ t.op = 22 then tyAll 2 2 us
 else if t.op = 11 ∨ t.op = 12 then tyAll (us.headD 0) 2 us
 else if 13 ≤ t.op ∧ t.op ≤ 16 then tyAll 1 2 us
 else if t.op = 20 then tyUnd (us.headD 0) us.tail
 else if t.op = 23 ∨ t.op = 24 then tyUnd (lookV vs t.name).type us
 else tyAll 1 1 us
theorem ret_i64x {a b : Int} (h : a = b) : Ending.returned (.int .i64 a) = .returned (.int .i64 b):=by rw [h]
set_option maxRecDepth 20000 in
set_option maxHeartbeats 4000000 in
theorem resultType_ok (W w : World) (nv : Value) (vs : List DVar) (G : List Int) (sb vb : Nat) (ov : Value) (D : List Nat) (C L : List DCond → Option Nat) (N : Nat) (h : Sc W w nv .nilFunc vs G sb vb ov D C L N) (t : DItem) (hn : t.name.size ≤ maxLen) (hop : 1 ≤ t.op ∧ t.op ≤ 24)
  (us : List Int) (hul : us.length = arF t.op) (oa : Option Addr) (oc : Nat) (hoc : us.length ≤ oc) (ho : ∀ k (hk : k < us.length),∃ b o,oa = some ⟨b,o,none⟩ ∧ w.cell? ⟨b,o + k,none⟩ = some (.int .i64 us[k])) :
  Calls Tryz.prog 132 #[.pointer (some ⟨sb,0,none⟩),.agg #[.int .i64 t.op,.int .i64 t.val,.string t.name],.slice oa us.length oc] w (Ans (.int .i64 (rtF vs t us)) w):=by
 have hA : Below w.heap.size w (w.alloc (.cells #[.int .i64 t.op,.int .i64 t.val,.string t.name] 103)):=(Below.refl _ _).alloc (Nat.le_refl _) _
 have HA:=hide hA
 have HF:=hide (h.below hA)
 have HO : Hid (∀ i (hi : i < us.length),∃ b o,oa = some ⟨b,o,none⟩ ∧ (w.alloc (.cells #[.int .i64 t.op,.int .i64 t.val,.string t.name] 103)).cell? ⟨b,o + i,none⟩ = some (.int .i64 us[i])):=fun i hi => by
  obtain ⟨b,o,e1,e2⟩:=ho i hi
  exact ⟨b,o,e1,(hA.cell (World.block_lt_of_cell? w _ e2)).trans e2⟩
 have HBX:=hide (blk_box w #[.int .i64 t.op,.int .i64 t.val,.string t.name] 103)
 clear h ho hA
 obtain ⟨op,val,name⟩:=t
 simp only at *
 have HN:=hide hn
 clear hn
 have HU3 : Hid (us.length ≤ 3):=by rw [hul]; refine hide ?_; unfold arF; have:=ocI_bd op; omega
 obtain ⟨R,hR⟩ : ∃ R,R = rtF vs ⟨op,val,name⟩ us:=⟨_,rfl⟩
 rw [← hR]
 by_cases h12 : op = 1 ∨ op = 2
 ·clear HF HO HBX hul HU3
  rcases h12 with rfl | rfl
  ·have HV : Hid (R = 1):=hR
   clear hR
   go_enter Tryz.func132,Tryz.ntmps132
   go_wp2
   go_ret
   exact ⟨ret_i64x (uh HV).symm,uh HA⟩
  ·have HV : Hid (R = 2):=hR
   clear hR
   go_enter Tryz.func132,Tryz.ntmps132
   go_wp2
   go_ret
   exact ⟨ret_i64x (uh HV).symm,uh HA⟩
 by_cases h3 : op = 3
 ·subst h3
  have HV : Hid (R = (lookV vs name).type):=hR
  have HC:=hide (nameType_ok W _ nv vs G sb vb ov D C L N (uh HF) name (uh HN))
  have b2:=(uh HBX).cell (i:=2) (v:=.string name) rfl
  generalize (lookV vs name).type = r at *
  clear HF HO HBX hul HU3 hR h12
  go_enter Tryz.func132,Tryz.ntmps132
  go_wp2_with fail
  refine (uh HC).mono ?_
  rintro e w1 ⟨rfl,hb1⟩
  have HB1:=hide ((uh HA).trans (hb1.mono (uh HA).size))
  clear hb1 b2
  go_wp2
  go_ret
  exact ⟨ret_i64x (uh HV).symm,uh HB1⟩
 by_cases hx : op = 11 ∨ op = 12
 ·have hl : us.length = 2:=by rw [hul]; rcases hx with rfl | rfl <;> rfl
  match us,hl with
  | [u0,u1],_ =>
   have HV : Hid (R = tyAll u0 2 [u0,u1]):=by rcases hx with rfl | rfl <;> exact hR
   have HO2:=hide (uh HO)
   obtain ⟨b,o,rfl,k0⟩:=uh HO 0 (by simp)
   simp only [List.getElem_cons_zero,Nat.add_zero] at k0
   have HT : Hid (Calls Tryz.prog 140 #[.slice (some ⟨b,o,none⟩) 2 oc,.int .i64 u0,.int .i64 2] (w.alloc (.cells #[.int .i64 op,.int .i64 val,.string name] 103)) fun e w' => e = .returned (.int .i64 R) ∧ w' = (w.alloc (.cells #[.int .i64 op,.int .i64 val,.string name] 103))):=by
    rw [uh HV]
    exact hide (typeFrom_ok [u0,u1] u0 2 (w.alloc (.cells #[.int .i64 op,.int .i64 val,.string name] 103)) _ oc (uh HO2) (by simp))
   clear HF HO HBX hul HU3 hR h12 h3 HV HO2 hop
   simp only [List.length_cons,List.length_nil,Nat.zero_add,Nat.reduceAdd]
   rcases hx with rfl | rfl
   all_goals
    go_enter Tryz.func132,Tryz.ntmps132
    go_wp2_with fail
    refine (uh HT).mono ?_
    rintro e w1 ⟨rfl,rfl⟩
    go_wp2
    go_ret
    exact ⟨rfl,uh HA⟩
 by_cases hu : op = 20
 ·subst hu
  have hl : us.length = 3:=hul
  match us,hl with
  | [u0,u1,u2],_ =>
   have HV : Hid (R = tyUnd u0 [u1,u2]):=hR
   have HO2:=hide (uh HO)
   obtain ⟨b,o,rfl,k0⟩:=uh HO 0 (by simp)
   simp only [List.getElem_cons_zero,Nat.add_zero] at k0
   have HT : Hid (Calls Tryz.prog 141 #[.int .i64 u0,.slice (some ⟨b,o + 1,none⟩) 2 (oc - 1)] (w.alloc (.cells #[.int .i64 20,.int .i64 val,.string name] 103)).drew fun e w' => e = .returned (.int .i64 R) ∧ ∃ n,w' = (w.alloc (.cells #[.int .i64 20,.int .i64 val,.string name] 103)).drew.drewN n):=by
    rw [uh HV]
    refine hide (typeUnder_ok u0 [u1,u2] (w.alloc (.cells #[.int .i64 20,.int .i64 val,.string name] 103)).drew _ (oc - 1) (fun k hk => ?_) (by simp) (by simp))
    obtain ⟨b',o',e1,e2⟩:=uh HO2 (k + 1) (by simp at hk ⊢; omega)
    simp only [Option.some.injEq,Addr.mk.injEq,and_true] at e1
    obtain ⟨rfl,rfl⟩:=e1
    exact ⟨b,o + 1,rfl,by rw [show o + 1 + k = o + (k + 1) from by omega]; exact e2⟩
   clear HF HO HBX hul HU3 hR h12 h3 HV HO2 hop
   simp only [List.length_cons,List.length_nil,Nat.zero_add,Nat.reduceAdd] at *
   have hocI : ¬ oc = 1:=by omega
   go_enter Tryz.func132,Tryz.ntmps132
   go_wp2_with fail
   go_region_held3 (fun w' => w'.cell? ⟨b,o,none⟩ = some (.int .i64 u0)) (go_keep) (first | (go_at_call 141; refine (uh HT).mono ?_; rintro e w1 ⟨rfl,nq,rfl⟩))
   go_wp2
   go_ret
   exact ⟨rfl,below_dN (uh HA) _⟩
 by_cases hw : op = 23 ∨ op = 24
 ·have HV : Hid (R = tyUnd (lookV vs name).type us):=by rcases hw with rfl | rfl <;> exact hR
  have HC:=hide (nameType_ok W _ nv vs G sb vb ov D C L N (uh HF) name (uh HN))
  have HU1 : Hid (0 < us.length):=by rw [hul]; rcases hw with rfl | rfl <;> exact hide (by decide)
  have b2:=(uh HBX).cell (i:=2) (v:=.string name) rfl
  generalize (lookV vs name).type = r at *
  have HT : Hid (∀ w1,Below (w.alloc (.cells #[.int .i64 op,.int .i64 val,.string name] 103)).heap.size (w.alloc (.cells #[.int .i64 op,.int .i64 val,.string name] 103)) w1 → Calls Tryz.prog 141 #[.int .i64 r,.slice oa us.length oc] w1 fun e w' => e = .returned (.int .i64 R) ∧ ∃ n,w' = w1.drewN n):=fun w1 hb1 => by
   rw [uh HV]
   refine typeUnder_ok r us w1 _ oc (fun k hk => ?_) (by have:=uh HU3; omega) (uh HU1)
   obtain ⟨b,o,e1,e2⟩:=uh HO k hk
   exact ⟨b,o,e1,(hb1.cell (World.block_lt_of_cell? _ _ e2)).trans e2⟩
  clear HF HO HBX hul HU3 hR h12 h3 HV hop HU1
  generalize us.length = ul at *
  rcases hw with rfl | rfl
  all_goals
   go_enter Tryz.func132,Tryz.ntmps132
   go_wp2_with fail
   refine (uh HC).mono ?_
   rintro e w1 ⟨rfl,hb1⟩
   have HB1:=hide ((uh HA).trans (hb1.mono (uh HA).size))
   have HT1:=hide (uh HT w1 hb1)
   clear hb1 b2 HT
   go_wp2_with fail
   refine (uh HT1).mono ?_
   rintro e w2 ⟨rfl,nq,rfl⟩
   go_wp2
   go_ret
   exact ⟨rfl,below_dN (uh HB1) _⟩
 have HT : Hid (∀ a r,Calls Tryz.prog 140 #[.slice oa us.length oc,.int .i64 a,.int .i64 r] (w.alloc (.cells #[.int .i64 op,.int .i64 val,.string name] 103)) (TfPost (tyAll a r us) (w.alloc (.cells #[.int .i64 op,.int .i64 val,.string name] 103)))):=fun a r => typeFrom_ok us a r _ _ oc (uh HO) (by have:=uh HU3; omega)
 by_cases hy : op = 5 ∨ op = 17 ∨ op = 18 ∨ op = 19 ∨ op = 22
 ·have HT1 : Hid (Calls Tryz.prog 140 #[.slice oa us.length oc,.int .i64 2,.int .i64 2] (w.alloc (.cells #[.int .i64 op,.int .i64 val,.string name] 103)) (TfPost R (w.alloc (.cells #[.int .i64 op,.int .i64 val,.string name] 103)))):=by
   have h9 : R = tyAll 2 2 us:=by rcases hy with rfl | rfl | rfl | rfl | rfl <;> exact hR
   rw [h9]
   exact hide (uh HT 2 2)
  clear HF HO HBX hul HU3 hR h12 h3 hop hx hu hw HT
  generalize us.length = ul at *
  rcases hy with rfl | rfl | rfl | rfl | rfl
  all_goals
   go_enter Tryz.func132,Tryz.ntmps132
   go_wp2_with fail
   refine (uh HT1).mono ?_
   rintro e w2 ⟨rfl,rfl⟩
   go_wp2
   go_ret
   exact ⟨rfl,uh HA⟩
 by_cases hz : op = 13 ∨ op = 14 ∨ op = 15 ∨ op = 16
 ·have HT1 : Hid (Calls Tryz.prog 140 #[.slice oa us.length oc,.int .i64 1,.int .i64 2] (w.alloc (.cells #[.int .i64 op,.int .i64 val,.string name] 103)) (TfPost R (w.alloc (.cells #[.int .i64 op,.int .i64 val,.string name] 103)))):=by
   have h9 : R = tyAll 1 2 us:=by rcases hz with rfl | rfl | rfl | rfl <;> exact hR
   rw [h9]
   exact hide (uh HT 1 2)
  clear HF HO HBX hul HU3 hR h12 h3 hop hx hu hw HT hy
  generalize us.length = ul at *
  rcases hz with rfl | rfl | rfl | rfl
  all_goals
   go_enter Tryz.func132,Tryz.ntmps132
   go_wp2_with fail
   refine (uh HT1).mono ?_
   rintro e w2 ⟨rfl,rfl⟩
   go_wp2
   go_ret
   exact ⟨rfl,uh HA⟩
 have hq : op = 4 ∨ op = 6 ∨ op = 7 ∨ op = 8 ∨ op = 9 ∨ op = 10 ∨ op = 21:=by omega
 have HT1 : Hid (Calls Tryz.prog 140 #[.slice oa us.length oc,.int .i64 1,.int .i64 1] (w.alloc (.cells #[.int .i64 op,.int .i64 val,.string name] 103)) (TfPost R (w.alloc (.cells #[.int .i64 op,.int .i64 val,.string name] 103)))):=by
  have h9 : R = tyAll 1 1 us:=by rcases hq with rfl | rfl | rfl | rfl | rfl | rfl | rfl <;> exact hR
  rw [h9]
  exact hide (uh HT 1 1)
 clear HF HO HBX hul HU3 hR h12 h3 hop hx hu hw HT hy hz
 generalize us.length = ul at *
 rcases hq with rfl | rfl | rfl | rfl | rfl | rfl | rfl
 all_goals
  go_enter Tryz.func132,Tryz.ntmps132
  go_wp2_with fail
  refine (uh HT1).mono ?_
  rintro e w2 ⟨rfl,rfl⟩
  go_wp2
  go_ret
  exact ⟨rfl,uh HA⟩
theorem rt_ty (vs : List DVar) (t : DItem) (us : List Int) (hi : itB t = true) (hu : ∀ u,u ∈ us → u ≠ 0) : rtF vs t us = tyItem vs t us:=by
 obtain ⟨hi0,hir,hin⟩:=(it_iff t).1 hi
 have hall : us.all (· != 0) = true:=List.all_eq_true.2 (fun u h9 => by simpa using hu u h9)
 obtain ⟨op,val,name⟩:=t
 simp only at *
 clear hir hi hu
 have hz : ∀ s : ByteArray,lookI vs s < 0 → (lookV vs s).type = 0:=fun s h9 => by
  unfold lookI at h9
  unfold lookV
  by_cases hl : lookN vs s < vs.length
  ·rw [if_pos hl] at h9; omega
  ·rw [dif_neg hl]
 by_cases h3 : op = 3 ∨ op = 23 ∨ op = 24
 ·have hnz : ¬ name.size = 0:=by
   intro h
   simp only [nmB,h3,if_true] at hin
   simp [nameB,plainB,freshB,h] at hin
  rcases h3 with rfl | rfl | rfl
  ·simp only [rtF,tyItem,if_neg hnz,if_true]
   by_cases hl : lookI vs name < 0
   ·rw [if_pos hl,hz _ hl]; rfl
   ·rw [if_neg hl]; rfl
  all_goals
   by_cases hl : lookI vs name < 0
   ·simp [rtF,tyItem,hnz,hl,tyUnd,hz _ hl]
   ·by_cases h2 : (lookV vs name).type = 2
    ·simp [rtF,tyItem,hnz,hl,tyUnd,h2,tyRest,hall,tyAll]
    ·simp [rtF,tyItem,hnz,hl,tyUnd,h2]
 ·have hz0 : name.size = 0:=by
   simp only [nmB,h3,if_false] at hin
   simpa using hin
  have hop : op = 1 ∨ op = 2 ∨ op = 4 ∨ op = 5 ∨ op = 6 ∨ op = 7 ∨ op = 8 ∨ op = 9 ∨ op = 10 ∨ op = 11 ∨ op = 12 ∨ op = 13 ∨ op = 14 ∨ op = 15 ∨ op = 16 ∨ op = 17 ∨ op = 18 ∨ op = 19 ∨ op = 20 ∨ op = 21 ∨ op = 22:=by omega
  clear h3 hin hi0
  rcases hop with rfl | rfl | rfl | rfl | rfl | rfl | rfl | rfl | rfl | rfl | rfl | rfl | rfl | rfl | rfl | rfl | rfl | rfl | rfl | rfl | rfl
  all_goals simp [rtF,tyItem,hz0,tyUnd,tyRest,hall,tyAll]
theorem Fd.lenLe {α : Type} {f : DItem → List α → α} {code : List DItem} {b e : Nat} {us : List α} (h : Fd f code b e us) : us.length + b ≤ e:=by
 induction h using Fd.ind with
 | nil b => simp
 | snoc h h1 h2 h3 i1 i2 => rw [List.length_append,List.length_singleton]; omega
theorem OwnV.cutF {P : Program} {α : Type} {E : ElF P α} {w : World} {base : Nat} {a : Option Addr} {c m : Nat} {xs : List α} (h : OwnV E w base (.slice a xs.length c) xs) (hm : m ≤ xs.length) : OwnV E w base (.slice a m c) (xs.take m):=by
 obtain ⟨h1,h2⟩:=h
 have hl : (xs.take m).length = m:=by rw [List.length_take]; omega
 refine ⟨by rw [flat_len E.f E.sz E.hf],?_⟩
 rcases h2 with ⟨h3,h4⟩ | ⟨g,cap,cur,h3,h4,h5,h6,h7,h8,h9⟩
 ·simp only [Value.slice.injEq] at h3
  obtain ⟨rfl,_,rfl⟩:=h3
  have hm0 : m = 0:=by omega
  subst hm0
  exact Or.inl ⟨rfl,by simp⟩
 ·simp only [Value.slice.injEq] at h3
  obtain ⟨rfl,_,rfl⟩:=h3
  refine Or.inr ⟨g,c,cur,by rw [hl],h4,h5,by omega,h7,h8,?_⟩
  rw [hl]
  have e1 : xs.flatMap E.f = (xs.take m).flatMap E.f ++ (xs.drop m).flatMap E.f:=by rw [← List.flatMap_append,List.take_append_drop]
  have e2 : (cur.toList.take (xs.length * E.sz)).take (m * E.sz) = (xs.take m).flatMap E.f:=by
   rw [h9,e1,List.take_left' (by rw [flat_len E.f E.sz E.hf,hl])]
  rw [← e2,List.take_take,Nat.min_eq_left (Nat.mul_le_mul_right _ hm)]
theorem below_drew_l {B : Nat} {a b : World} (h : Below B a.drew b) : Below B a b:=⟨h.os,h.tape,h.output,h.size,h.block⟩
theorem ty_zero (vs : List DVar) (t : DItem) (us : List Int) (hi : itB t = true) (hul : us.length = arF t.op) (h0 : (0 : Int) ∈ us) : tyItem vs t us = 0:=by
 obtain ⟨i,hi2,he⟩:=List.mem_iff_getElem.1 h0
 have h9:=tyRest_no (op:=t.op) i hi2 he
 unfold tyItem
 by_cases h3 : t.op = 3
 ·exfalso
  rw [h3] at hul
  have : arF 3 = 0:=rfl
  omega
 rw [h9,if_neg h3]
 split
 ·rfl
 ·split
  ·rfl
  ·split <;> rfl
theorem fd_zero (vs : List DVar) (code : List DItem) (hit : ∀ t,t ∈ code → itB t = true) (v : Int) (hv : Fd (tyItem vs) code 0 code.length [v]) : ∀ n k,k + n = code.length → ∀ ss,Fd (tyItem vs) code 0 k ss → wk (code.drop k) ss.length = true → (0 : Int) ∈ ss → v = 0:=by
 intro n
 induction n with
 | zero =>
  intro k hk ss hf hw h0
  have e : k = code.length:=by omega
  subst e
  rw [List.drop_length] at hw
  have hl : ss.length = 1:=by
   simp [wk] at hw
   omega
  have h9:=(Fd.one _ _ _ _ _ hf hv hl).2
  rw [h9] at h0
  exact (List.mem_singleton.1 h0).symm
 | succ n ih =>
  intro k hk ss hc hw h0
  have hlt : k < code.length:=by omega
  rw [List.drop_eq_getElem_cons hlt] at hw
  simp only [wk] at hw
  have hbd:=ocI_bd code[k].op
  by_cases hneg : (ss.length : Int) < ocI code[k].op
  ·rw [if_pos hneg] at hw; cases hw
  rw [if_neg hneg] at hw
  have har : ((arF code[k].op : Nat) : Int) = ocI code[k].op:=by unfold arF; omega
  obtain ⟨m,s1,s2,rfl,hl2,c1,c2⟩:=hc.split (arF code[k].op) (by omega)
  refine ih (k + 1) (by omega) (s1 ++ [tyItem vs code[k] s2]) (.snoc hlt c1 c2 hl2) ?_ ?_
  ·rw [List.length_append] at hw
   have : (((s1 ++ [tyItem vs code[k] s2]).length : Nat) : Int) = ((s1.length + s2.length : Nat) : Int) + (1 - ocI code[k].op):=by simp; omega
   rw [this]
   exact hw
  ·rcases List.mem_append.1 h0 with h9 | h9
   ·exact List.mem_append.2 (Or.inl h9)
   ·rw [ty_zero vs _ _ (hit _ (List.getElem_mem hlt)) hl2 h9]
    simp
set_option maxRecDepth 20000 in
set_option maxHeartbeats 8000000 in
theorem typeOf_ok (W w : World) (nv : Value) (vs : List DVar) (G : List Int) (sb vb : Nat) (ov : Value) (D : List Nat) (C L : List DCond → Option Nat) (N : Nat) (hS : Sc W w nv .nilFunc vs G sb vb ov D C L N)
  (code : List DItem) (cv : Value) (hcv : SlAt 3 32 RItem 0 w cv code) (hit : ∀ t,t ∈ code → itB t = true) (hl : code.length ≤ 6000) (v : Int) (hv : Fd (tyItem vs) code 0 code.length [v]) (hwk : wk code 0 = true) :
  Calls Tryz.prog 115 #[.pointer (some ⟨sb,0,none⟩),cv] w (Ans (.int .i64 v) w):=by
 obtain ⟨ca,cc,hcve⟩:=hcv.shape
 subst hcve
 have HS:=hide hS
 have HCV:=hide hcv
 have HIT:=hide hit
 have HV:=hide hv
 obtain ⟨base,hbase⟩ : ∃ base,base = w.heap.size:=⟨_,rfl⟩
 have HBE:=hide hbase
 have HBB : Hid (base ≤ w.heap.size):=by rw [hbase]; exact hide (Nat.le_refl _)
 have hnil : Hid (OwnV elInt w base (.slice none 0 0) []):=hide (OwnV.nil (E:=elInt) w base)
 have HWK : Hid (wk (code.drop 0) ([] : List Int).length = true):=hwk
 obtain ⟨PO,hPO⟩ : ∃ PO : Ending → World → Prop,PO = Ans (.int .i64 v) w:=⟨_,rfl⟩
 rw [← hPO]
 have HPO:=hide hPO
 clear hS hcv hit hv hwk hbase hPO
 go_enter Tryz.func115,Tryz.ntmps115
 go_wp2
 go_loopg [5,12] code.length (fun gm kv iv wr => ∃ (q : Nat) (us : List Int) (stv : Value),q ≤ code.length ∧ gm = code.length - q ∧ iv = .int .i64 q ∧ kv = stv ∧ OwnV elInt wr base stv us ∧ Fd (tyItem vs) code 0 q us ∧ wk (code.drop q) us.length = true ∧ Below w.heap.size w wr ∧ ∀ u,u ∈ us → u ≠ 0)
 case atStart => exact ⟨0,[],_,Nat.zero_le _,by omega,rfl,rfl,uh hnil,.nil 0,uh HWK,Below.refl _ _,fun u hu => by simp at hu⟩
 case round =>
  obtain ⟨q,us,stv,hq,hg,rfl,rfl,ho,hf,hwk,hbt,hnz⟩:=hrel
  rename World => wr
  clear hnil HWK
  obtain ⟨sa2,sc2,hse⟩:=ho.slice
  subst hse
  have HO:=hide ho
  have HF:=hide hf
  have HBT:=hide hbt
  have HG9:=hide hg
  have HNZ:=hide hnz
  by_cases hlt : q < code.length
  case neg =>
   have e : q = code.length:=by omega
   have hu1 : us.length = 1:=by
    rw [e,List.drop_length] at hwk
    simp [wk] at hwk
    omega
   have hus : us = [v]:=by
    rw [e] at hf
    exact (Fd.one _ _ _ _ _ hf (uh HV) hu1).2
   subst hus
   obtain ⟨g2,c2,hse2⟩ : ∃ g c,(Value.slice sa2 [v].length sc2) = .slice (some ⟨g,0,none⟩) 1 c:=by
    rcases ho.shape with ⟨_,h9⟩ | ⟨g,c,h9,_⟩
    ·cases h9
    ·exact ⟨g,c,h9⟩
   simp only [Value.slice.injEq] at hse2
   obtain ⟨rfl,_,rfl⟩:=hse2
   have k0:=ho.icell 0 (by simp)
   simp only [List.getElem_cons_zero] at k0
   have HFIN : Hid (PO (.returned (.int .i64 v)) wr):=by
    rw [uh HPO]
    exact hide ⟨rfl,hbt⟩
   have hqI : ¬ (q : Int) < (code.length : Int):=by omega
   clear ho hf hbt hg hwk e hu1 HO HF HBT HG9 HS HCV HIT HV HNZ hnz
   go_wp2
   exact uh HFIN
  have hdr : code.drop q = code[q] :: code.drop (q + 1):=List.drop_eq_getElem_cons hlt
  rw [hdr,wk] at hwk
  have hoc:=ocI_bd code[q].op
  have hnn : ¬ (us.length : Int) < ocI code[q].op:=fun h9 => by rw [if_pos h9] at hwk; cases hwk
  rw [if_neg hnn] at hwk
  have har : ((arF code[q].op : Nat) : Int) = ocI code[q].op:=by unfold arF; omega
  obtain ⟨m,u1,u2,hus,hu2,f1,f2⟩:=hf.split (arF code[q].op) (by omega)
  have HF2 : Hid (Fd (tyItem vs) code 0 (q + 1) (u1 ++ [tyItem vs code[q] u2])):=.snoc hlt f1 f2 hu2
  have HWK2 : Hid (wk (code.drop (q + 1)) ((u1 ++ [tyItem vs code[q] u2]).length : Nat) = true):=by
   have e : (((u1 ++ [tyItem vs code[q] u2]).length : Nat) : Int) = (us.length : Int) + (1 - ocI code[q].op):=by
    rw [hus,List.length_append,List.length_append,← har,hu2]
    simp
    omega
   refine hide ?_
   rw [e]
   exact hwk
  have HIQ:=hide (uh HIT _ (List.getElem_mem hlt))
  have HZ : Hid (tyItem vs code[q] u2 = 0 → v = 0):=fun h9 => fd_zero vs code (uh HIT) v (uh HV) (code.length - (q + 1)) (q + 1) (by omega) _ (uh HF2) (uh HWK2) (by rw [h9]; simp)
  have HNZ1 : Hid (∀ u,u ∈ u1 → u ≠ 0):=fun u hu => hnz u (by rw [hus]; exact List.mem_append.2 (Or.inl hu))
  have hRT : rtF vs code[q] u2 = tyItem vs code[q] u2:=rt_ty vs _ _ (uh HIQ) (fun u hu => hnz u (by rw [hus]; exact List.mem_append.2 (Or.inr hu)))
  have hcr:=(uh HCV).stays RItem_kept hbt
  obtain ⟨_,_,hve2,_,_,hxx⟩:=hcr
  simp only [Value.slice.injEq] at hve2
  obtain ⟨rfl,_,rfl⟩:=hve2
  obtain ⟨cb,co,cs,rfl,_,hcb,hcs,hcc,hRR⟩:=hxx q hlt
  obtain ⟨rfl,hsn,hop,hvl⟩:=hRR
  have c0:=hcc 0 (by simp)
  have c1:=hcc 1 (by simp)
  have c2:=hcc 2 (by simp)
  simp only [Nat.mul_one,Nat.add_zero,List.getElem_cons_zero,List.getElem_cons_succ] at c0 c1 c2
  have hu6 : us.length ≤ q:=by
   have:=hf.lenLe
   omega
  have HOC:=hide (fun w => operandCount_ok code[q].op w)
  have hrest : (us.length : Int) - ocI code[q].op = (u1.length : Int):=by
   rw [hus,List.length_append,hu2,← har]
   simp
  have hwr : IntKind.i64.wrap ((us.length : Int) - ocI code[q].op) = (u1.length : Int):=by
   rw [hrest,IntKind.wrap_i64]
   omega
  have HU2:=hide hu2
  have HUS:=hide hus
  have hqI : (q : Int) < (code.length : Int):=by omega
  have HSN:=hide hsn
  have HRT:=hide hRT
  clear ho hf hbt hg hwk f1 f2 hus hu2 hxx hcc hcs hsn hop hvl har hnn hoc hdr hrest hcb hnz hRT HNZ HIT HV
  generalize hT : code[q] = t at *
  clear hT
  have hul : us.length = u1.length + u2.length:=by rw [uh HUS,List.length_append]
  have htk : us.take u1.length = u1:=by rw [uh HUS,List.take_left]
  have HCUT:=hide ((uh HO).cutF (m:=u1.length) (by omega))
  rw [htk] at HCUT
  have HSH:=hide (uh HO).shape
  have HCEL : Hid (∀ g,sa2 = some ⟨g,0,none⟩ → ∀ i (hi : i < u2.length),wr.cell? ⟨g,u1.length + i,none⟩ = some (.int .i64 u2[i])):=fun g hg i hi => by
   have h9:=(uh HO)
   rw [hg] at h9
   have h9:=h9.icell (u1.length + i) (by omega)
   rw [h9]
   have e9 : us[u1.length + i]'(by omega) = u2[i]:=by
    have h8 : us[u1.length + i]? = some u2[i]:=by
     rw [uh HUS,List.getElem?_append_right (by omega),show u1.length + i - u1.length = i by omega,List.getElem?_eq_getElem hi]
    rw [List.getElem?_eq_getElem (by omega)] at h8
    exact Option.some.inj h8
   rw [e9]
  have hA : Below wr.heap.size wr (wr.alloc (.cells #[.int .i64 t.op,.int .i64 t.val,.string t.name] 103)):=(Below.refl _ _).alloc (Nat.le_refl _) _
  have HA:=hide hA
  have HRES : Hid (∀ oa oc,u2.length ≤ oc → (0 < u2.length → ∃ g,sa2 = some ⟨g,0,none⟩ ∧ oa = some ⟨g,u1.length,none⟩) → Calls Tryz.prog 132 #[.pointer (some ⟨sb,0,none⟩),.agg #[.int .i64 t.op,.int .i64 t.val,.string t.name],.slice oa u2.length oc] (wr.alloc (.cells #[.int .i64 t.op,.int .i64 t.val,.string t.name] 103)).drew (Ans (.int .i64 (tyItem vs t u2)) (wr.alloc (.cells #[.int .i64 t.op,.int .i64 t.val,.string t.name] 103)).drew)):=fun oa oc h7 h9 => by
   rw [← uh HRT]
   refine resultType_ok W _ nv vs G sb vb ov D C L N (((uh HS).below (uh HBT)).below hA.drew) t ?_ ?_ u2 (uh HU2) oa oc h7 (fun i hi => ?_)
   ·have h5:=uh HSN
    unfold Len at h5
    unfold maxLen
    omega
   ·have h5:=((it_iff t).1 (uh HIQ)).1
    exact h5
   obtain ⟨g,h8,h7⟩:=h9 (by omega)
   refine ⟨g,u1.length,h7,?_⟩
   have h6:=uh HCEL g h8 i hi
   exact (hA.drew.cell (World.block_lt_of_cell? wr _ h6)).trans h6
  have HBX:=hide (blk_box wr #[.int .i64 t.op,.int .i64 t.val,.string t.name] 103)
  have hsub : u2.length = us.length - u1.length:=by omega
  rw [hsub] at HRES
  generalize tyItem vs t u2 = r at *
  have hle : (u1.length : Int) ≤ (us.length : Int):=by omega
  have hu1c : u1.length ≤ 6000:=by omega
  clear hA htk HO HCEL HU2 HF HCV hul hsub HRT HIQ
  rcases uh HSH with ⟨hs1,hs2⟩ | ⟨g,cap,hs1,_,_,hs2⟩
  ·simp only [Value.slice.injEq] at hs1
   obtain ⟨rfl,hs3,rfl⟩:=hs1
   have hz : (0 = u1.length) = True:=eq_true (by omega)
   have h0 : ¬ 0 < us.length - u1.length:=by omega
   have g : Nat:=0
   have hz1 : u1.length = 0:=by omega
   rw [hz1] at HCUT
   have HU0 : Hid (u1 = []):=List.eq_nil_of_length_eq_zero hz1
   clear hs2 hs3 hz1
   have HR2 : Hid (Calls Tryz.prog 132 #[.pointer (some ⟨sb,0,none⟩),.agg #[.int .i64 t.op,.int .i64 t.val,.string t.name],.slice none (us.length - u1.length) 0] (wr.alloc (.cells #[.int .i64 t.op,.int .i64 t.val,.string t.name] 103)).drew fun e w' => e = .returned (.int .i64 r) ∧ Hid (Below wr.heap.size wr w') ∧ w'.cell? ⟨wr.heap.size,0,none⟩ = some (.int .i64 t.op) ∧ w'.cell? ⟨wr.heap.size,1,none⟩ = some (.int .i64 t.val) ∧ w'.cell? ⟨wr.heap.size,2,none⟩ = some (.string t.name)):=by
    refine hide ((uh HRES none 0 (by omega) (fun h9 => by first | exact ⟨g,rfl,rfl⟩ | (exfalso; omega))).mono ?_)
    rintro e w' ⟨rfl,hb⟩
    have hbk:=(uh HBX).below (B:=(wr.alloc (.cells #[.int .i64 t.op,.int .i64 t.val,.string t.name] 103)).heap.size) (below_drew_l hb) (uh HBX).lt
    exact ⟨rfl,(uh HA).trans ((below_drew_l hb).mono (uh HA).size),hbk.cell (i:=0) rfl,hbk.cell (i:=1) rfl,hbk.cell (i:=2) rfl⟩
   clear HRES HSH HUS h0
   go_wp2_with fail
   refine (uh HOC _).mono ?_
   rintro e w1 ⟨rfl,rfl⟩
   go_wp2_with fail
   have b0:=(uh HBX).cell (i:=0) (v:=.int .i64 t.op) rfl
   have b1:=(uh HBX).cell (i:=1) (v:=.int .i64 t.val) rfl
   have b2:=(uh HBX).cell (i:=2) (v:=.string t.name) rfl
   generalize wr.alloc (.cells #[.int .i64 t.op,.int .i64 t.val,.string t.name] 103) = wI at *
   go_region_held3 (fun w' => w'.cell? ⟨wr.heap.size,0,none⟩ = some (.int .i64 t.op) ∧ w'.cell? ⟨wr.heap.size,1,none⟩ = some (.int .i64 t.val) ∧ w'.cell? ⟨wr.heap.size,2,none⟩ = some (.string t.name)) (go_keep) (first | (go_at_call 132; refine (uh HR2).mono ?_; rintro e w2 ⟨rfl,HB2,b0',b1',b2'⟩))
   clear b0 b1 b2 b0' b1' b2' HR2 HBX HA c0 c1 c2
   by_cases hr0 : r = 0
   ·have HFIN : Hid (PO (.returned (.int .i64 0)) w2):=by
     rw [uh HPO,uh HZ hr0]
     exact hide ⟨rfl,(uh HBT).trans ((uh HB2).mono (uh HBT).size)⟩
    subst hr0
    go_wp2
    exact uh HFIN
   have hre : (r == 0) = false:=by rw [beq_eq_false_iff_ne]; exact hr0
   have HNZ2 : Hid (∀ u,u ∈ u1 ++ [r] → u ≠ 0):=fun u hu => by
    rcases List.mem_append.1 hu with h9 | h9
    ·exact uh HNZ1 u h9
    ·rw [List.mem_singleton] at h9
     rw [h9]
     exact hr0
   clear hr0
   have hA2 : Below w2.heap.size w2 (w2.alloc (.cells #[.int .i64 r] 3)):=(Below.refl _ _).alloc (Nat.le_refl _) _
   have HA2:=hide hA2
   have HO4:=hide (((uh HCUT).below (uh HB2)).below hA2)
   have hbs : base ≤ (w2.alloc (.cells #[.int .i64 r] 3)).heap.size:=Nat.le_trans (Nat.le_trans (uh HBB) (uh HBT).size) (Nat.le_trans (uh HB2).size hA2.size)
   have HBS:=hide hbs
   clear hA2 hbs HCUT
   go_wp2_with (at_builtin; go_must (refine wpList_append_oneN elInt _ rfl _ _ rfl base _ u1 rfl (uh HO4) w2.heap.size r rfl (fun j u hu => by rw [World.cell?_alloc_at _ _ _ _ rfl]; simpa [elInt] using hu) (by simp [elInt]; omega) (uh HBS) ?_))
   intro v' w5 ho5 hg5 hn5
   have HO5:=hide ho5
   have HB5 : Hid (Below w.heap.size w w5):=by
    have h1 : Below w.heap.size w (w2.alloc (.cells #[.int .i64 r] 3)):=((uh HBT).trans ((uh HB2).mono (uh HBT).size)).trans ((uh HA2).mono (Nat.le_trans (uh HBT).size (uh HB2).size))
    refine ⟨hg5.os.trans h1.os,hg5.tape.trans h1.tape,hg5.output.trans h1.output,Nat.le_trans h1.size hg5.size,fun k hk => (hg5.block k (Nat.lt_of_lt_of_le hk h1.size) (fun e9 => ?_)).trans (h1.block k hk)⟩
    have h8:=(uh HO4).lt k e9.symm
    have h7:=uh HBE
    omega
   clear ho5 hg5 hn5
   go_wp2
   go_roundg (code.length - (q + 1))
   case measure => have:=uh HG9; omega
   case rel => exact ⟨q + 1,u1 ++ [r],v',by omega,rfl,by go_num,rfl,(by have h9:=uh HO5; rw [uh HU0]; exact h9),uh HF2,uh HWK2,uh HB5,uh HNZ2⟩
  simp only [Value.slice.injEq] at hs1
  obtain ⟨rfl,_,rfl⟩:=hs1
  have hcI : (us.length : Int) ≤ (sc2 : Int):=by omega
  have hcI1 : (u1.length : Int) ≤ (sc2 : Int):=by omega
  by_cases hcap : sc2 = u1.length
  ·have hz : (sc2 = u1.length) = True:=eq_true hcap
   have h0 : ¬ 0 < us.length - u1.length:=by omega
   clear hcap hs2
   have HR2 : Hid (Calls Tryz.prog 132 #[.pointer (some ⟨sb,0,none⟩),.agg #[.int .i64 t.op,.int .i64 t.val,.string t.name],.slice (some ⟨g,0,none⟩) (us.length - u1.length) (sc2 - u1.length)] (wr.alloc (.cells #[.int .i64 t.op,.int .i64 t.val,.string t.name] 103)).drew fun e w' => e = .returned (.int .i64 r) ∧ Hid (Below wr.heap.size wr w') ∧ w'.cell? ⟨wr.heap.size,0,none⟩ = some (.int .i64 t.op) ∧ w'.cell? ⟨wr.heap.size,1,none⟩ = some (.int .i64 t.val) ∧ w'.cell? ⟨wr.heap.size,2,none⟩ = some (.string t.name)):=by
    refine hide ((uh HRES (some ⟨g,0,none⟩) (sc2 - u1.length) (by omega) (fun h9 => by first | exact ⟨g,rfl,rfl⟩ | (exfalso; omega))).mono ?_)
    rintro e w' ⟨rfl,hb⟩
    have hbk:=(uh HBX).below (B:=(wr.alloc (.cells #[.int .i64 t.op,.int .i64 t.val,.string t.name] 103)).heap.size) (below_drew_l hb) (uh HBX).lt
    exact ⟨rfl,(uh HA).trans ((below_drew_l hb).mono (uh HA).size),hbk.cell (i:=0) rfl,hbk.cell (i:=1) rfl,hbk.cell (i:=2) rfl⟩
   clear HRES HSH HUS h0
   go_wp2_with fail
   refine (uh HOC _).mono ?_
   rintro e w1 ⟨rfl,rfl⟩
   go_wp2_with fail
   have b0:=(uh HBX).cell (i:=0) (v:=.int .i64 t.op) rfl
   have b1:=(uh HBX).cell (i:=1) (v:=.int .i64 t.val) rfl
   have b2:=(uh HBX).cell (i:=2) (v:=.string t.name) rfl
   generalize wr.alloc (.cells #[.int .i64 t.op,.int .i64 t.val,.string t.name] 103) = wI at *
   go_region_held3 (fun w' => w'.cell? ⟨wr.heap.size,0,none⟩ = some (.int .i64 t.op) ∧ w'.cell? ⟨wr.heap.size,1,none⟩ = some (.int .i64 t.val) ∧ w'.cell? ⟨wr.heap.size,2,none⟩ = some (.string t.name)) (go_keep) (first | (go_at_call 132; refine (uh HR2).mono ?_; rintro e w2 ⟨rfl,HB2,b0',b1',b2'⟩))
   clear b0 b1 b2 b0' b1' b2' HR2 HBX HA c0 c1 c2
   by_cases hr0 : r = 0
   ·have HFIN : Hid (PO (.returned (.int .i64 0)) w2):=by
     rw [uh HPO,uh HZ hr0]
     exact hide ⟨rfl,(uh HBT).trans ((uh HB2).mono (uh HBT).size)⟩
    subst hr0
    go_wp2
    exact uh HFIN
   have hre : (r == 0) = false:=by rw [beq_eq_false_iff_ne]; exact hr0
   have HNZ2 : Hid (∀ u,u ∈ u1 ++ [r] → u ≠ 0):=fun u hu => by
    rcases List.mem_append.1 hu with h9 | h9
    ·exact uh HNZ1 u h9
    ·rw [List.mem_singleton] at h9
     rw [h9]
     exact hr0
   clear hr0
   have hA2 : Below w2.heap.size w2 (w2.alloc (.cells #[.int .i64 r] 3)):=(Below.refl _ _).alloc (Nat.le_refl _) _
   have HA2:=hide hA2
   have HO4:=hide (((uh HCUT).below (uh HB2)).below hA2)
   have hbs : base ≤ (w2.alloc (.cells #[.int .i64 r] 3)).heap.size:=Nat.le_trans (Nat.le_trans (uh HBB) (uh HBT).size) (Nat.le_trans (uh HB2).size hA2.size)
   have HBS:=hide hbs
   clear hA2 hbs HCUT
   go_wp2_with (at_builtin; go_must (refine wpList_append_oneN elInt _ rfl _ _ rfl base _ u1 rfl (uh HO4) w2.heap.size r rfl (fun j u hu => by rw [World.cell?_alloc_at _ _ _ _ rfl]; simpa [elInt] using hu) (by simp [elInt]; omega) (uh HBS) ?_))
   intro v' w5 ho5 hg5 hn5
   have HO5:=hide ho5
   have HB5 : Hid (Below w.heap.size w w5):=by
    have h1 : Below w.heap.size w (w2.alloc (.cells #[.int .i64 r] 3)):=((uh HBT).trans ((uh HB2).mono (uh HBT).size)).trans ((uh HA2).mono (Nat.le_trans (uh HBT).size (uh HB2).size))
    refine ⟨hg5.os.trans h1.os,hg5.tape.trans h1.tape,hg5.output.trans h1.output,Nat.le_trans h1.size hg5.size,fun k hk => (hg5.block k (Nat.lt_of_lt_of_le hk h1.size) (fun e9 => ?_)).trans (h1.block k hk)⟩
    have h8:=(uh HO4).lt k e9.symm
    have h7:=uh HBE
    omega
   clear ho5 hg5 hn5
   go_wp2
   go_roundg (code.length - (q + 1))
   case measure => have:=uh HG9; omega
   case rel => exact ⟨q + 1,u1 ++ [r],v',by omega,rfl,by go_num,rfl,uh HO5,uh HF2,uh HWK2,uh HB5,uh HNZ2⟩
  have hc0 : ¬ sc2 = 0:=by omega
  have HR2 : Hid (Calls Tryz.prog 132 #[.pointer (some ⟨sb,0,none⟩),.agg #[.int .i64 t.op,.int .i64 t.val,.string t.name],.slice (some ⟨g,u1.length,none⟩) (us.length - u1.length) (sc2 - u1.length)] (wr.alloc (.cells #[.int .i64 t.op,.int .i64 t.val,.string t.name] 103)).drew fun e w' => e = .returned (.int .i64 r) ∧ Hid (Below wr.heap.size wr w') ∧ w'.cell? ⟨wr.heap.size,0,none⟩ = some (.int .i64 t.op) ∧ w'.cell? ⟨wr.heap.size,1,none⟩ = some (.int .i64 t.val) ∧ w'.cell? ⟨wr.heap.size,2,none⟩ = some (.string t.name)):=by
   refine hide ((uh HRES (some ⟨g,u1.length,none⟩) (sc2 - u1.length) (by omega) (fun h9 => by first | exact ⟨g,rfl,rfl⟩ | (exfalso; omega))).mono ?_)
   rintro e w' ⟨rfl,hb⟩
   have hbk:=(uh HBX).below (B:=(wr.alloc (.cells #[.int .i64 t.op,.int .i64 t.val,.string t.name] 103)).heap.size) (below_drew_l hb) (uh HBX).lt
   exact ⟨rfl,(uh HA).trans ((below_drew_l hb).mono (uh HA).size),hbk.cell (i:=0) rfl,hbk.cell (i:=1) rfl,hbk.cell (i:=2) rfl⟩
  clear HRES HSH HUS
  go_wp2_with fail
  refine (uh HOC _).mono ?_
  rintro e w1 ⟨rfl,rfl⟩
  go_wp2_with fail
  have b0:=(uh HBX).cell (i:=0) (v:=.int .i64 t.op) rfl
  have b1:=(uh HBX).cell (i:=1) (v:=.int .i64 t.val) rfl
  have b2:=(uh HBX).cell (i:=2) (v:=.string t.name) rfl
  generalize wr.alloc (.cells #[.int .i64 t.op,.int .i64 t.val,.string t.name] 103) = wI at *
  go_region_held3 (fun w' => w'.cell? ⟨wr.heap.size,0,none⟩ = some (.int .i64 t.op) ∧ w'.cell? ⟨wr.heap.size,1,none⟩ = some (.int .i64 t.val) ∧ w'.cell? ⟨wr.heap.size,2,none⟩ = some (.string t.name)) (go_keep) (first | (go_at_call 132; refine (uh HR2).mono ?_; rintro e w2 ⟨rfl,HB2,b0',b1',b2'⟩))
  clear b0 b1 b2 b0' b1' b2' HR2 HBX HA c0 c1 c2
  by_cases hr0 : r = 0
  ·have HFIN : Hid (PO (.returned (.int .i64 0)) w2):=by
    rw [uh HPO,uh HZ hr0]
    exact hide ⟨rfl,(uh HBT).trans ((uh HB2).mono (uh HBT).size)⟩
   subst hr0
   go_wp2
   exact uh HFIN
  have hre : (r == 0) = false:=by rw [beq_eq_false_iff_ne]; exact hr0
  have HNZ2 : Hid (∀ u,u ∈ u1 ++ [r] → u ≠ 0):=fun u hu => by
   rcases List.mem_append.1 hu with h9 | h9
   ·exact uh HNZ1 u h9
   ·rw [List.mem_singleton] at h9
    rw [h9]
    exact hr0
  clear hr0
  have hA2 : Below w2.heap.size w2 (w2.alloc (.cells #[.int .i64 r] 3)):=(Below.refl _ _).alloc (Nat.le_refl _) _
  have HA2:=hide hA2
  have HO4:=hide (((uh HCUT).below (uh HB2)).below hA2)
  have hbs : base ≤ (w2.alloc (.cells #[.int .i64 r] 3)).heap.size:=Nat.le_trans (Nat.le_trans (uh HBB) (uh HBT).size) (Nat.le_trans (uh HB2).size hA2.size)
  have HBS:=hide hbs
  clear hA2 hbs HCUT
  go_wp2_with (at_builtin; go_must (refine wpList_append_oneN elInt _ rfl _ _ rfl base _ u1 rfl (uh HO4) w2.heap.size r rfl (fun j u hu => by rw [World.cell?_alloc_at _ _ _ _ rfl]; simpa [elInt] using hu) (by simp [elInt]; omega) (uh HBS) ?_))
  intro v' w5 ho5 hg5 hn5
  have HO5:=hide ho5
  have HB5 : Hid (Below w.heap.size w w5):=by
   have h1 : Below w.heap.size w (w2.alloc (.cells #[.int .i64 r] 3)):=((uh HBT).trans ((uh HB2).mono (uh HBT).size)).trans ((uh HA2).mono (Nat.le_trans (uh HBT).size (uh HB2).size))
   refine ⟨hg5.os.trans h1.os,hg5.tape.trans h1.tape,hg5.output.trans h1.output,Nat.le_trans h1.size hg5.size,fun k hk => (hg5.block k (Nat.lt_of_lt_of_le hk h1.size) (fun e9 => ?_)).trans (h1.block k hk)⟩
   have h8:=(uh HO4).lt k e9.symm
   have h7:=uh HBE
   omega
  clear ho5 hg5 hn5
  go_wp2
  go_roundg (code.length - (q + 1))
  case measure => have:=uh HG9; omega
  case rel => exact ⟨q + 1,u1 ++ [r],v',by omega,rfl,by go_num,rfl,uh HO5,uh HF2,uh HWK2,uh HB5,uh HNZ2⟩
end Go.Proofs.YtfioeoihociilaaGreat
