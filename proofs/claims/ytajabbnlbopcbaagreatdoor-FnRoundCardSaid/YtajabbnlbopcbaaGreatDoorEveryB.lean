import Derived.Test.YtajabbnlbopcbaaGreatDoorEvery
namespace Go.Proofs.YtajabbnlbopcbaaGreatDoor
open Go.RowKit
set_option linter.unusedSimpArgs false
set_option linter.unusedVariables false
set_option maxHeartbeats 400000 in
theorem everyVar_portOK_ok (p : DVar → Bool) (hf : ∀ (x : DVar) cs w,RVar 0 w cs x → Calls Tryz.prog 35 #[valOfVar cs] w (Ans (.bool (p x)) w)) (xs : List DVar) (v : Value) (w : World) (hv : SlAt 3 48 RVar 0 w v xs) :
  Calls Tryz.prog 34 #[v,.func (.func 35) #[] #[]] w (Ans (.bool (xs.all p)) w):=by
 obtain ⟨a,cap,rfl,_,hn,hx⟩:=hv
 unfold Len at hn
 have HX:=hide hx
 have HFN:=hide hf
 clear hx hf
 go_enter Tryz.func34,Tryz.ntmps34
 go_wp2
 go_loopg [6,9] xs.length (fun g x i wr => ∃ (k : Nat),k ≤ xs.length ∧ g = xs.length - k ∧ i = .int .i64 k ∧ Below w.heap.size w wr ∧ ∀ j (h : j < xs.length),j < k → p xs[j] = true)
 case atStart => exact ⟨0,Nat.zero_le _,by omega,rfl,Below.refl _ _,fun j _ h => absurd h (Nat.not_lt_zero _)⟩
 case round =>
  obtain ⟨k,hk,hg,rfl,hbl,hall⟩:=hrel
  have HG:=hide hg
  have HA:=hide hall
  clear hg hall
  by_cases hlt : k < xs.length
  ·obtain ⟨b,o,cs,rfl,_,hb,hcs,hc,hR⟩:=uh HX k hlt
   have hR:=RVar_kept.stays _ _ _ _ _ hbl hR
   have hc : ∀ j (hj : j < cs.length),wr.cell? ⟨b,o + k * 3 + j,none⟩ = some cs[j]:=fun j hj => by rw [hbl.cell (p:=⟨b,_,none⟩) hb]; exact hc j hj
   have hcall:=fun ob => uh HFN xs[k] cs (wr.alloc ob) (RVar_kept.stays _ _ _ _ _ ((Below.refl _ _).alloc (Nat.le_refl _) ob) hR)
   obtain ⟨cl,rfl,hsn,hty,g1⟩:=hR
   obtain ⟨aa1,ca1,rfl⟩:=g1.shape
   clear g1
   have c0:=hc 0 (by simp)
   have c1:=hc 1 (by simp)
   have c2:=hc 2 (by simp)
   simp only [Nat.mul_one,Nat.add_zero,List.getElem_cons_zero,List.getElem_cons_succ] at c0 c1 c2
   simp only [valOfVar,List.headD_cons] at hcall
   have HC:=hide hcall
   clear hc hcs hcall
   cases hp : p xs[k]
   ·have F : xs.all p = false:=by
     rw [List.all_eq_false]
     exact ⟨xs[k],List.getElem_mem hlt,by rw [hp]; decide⟩
    have HF:=hide F
    clear F
    go_wp2_with fail
    refine (uh HC _).mono ?_
    rintro e w1 ⟨rfl,hb1⟩
    rw [hp]
    go_wp2
    go_ret
    exact ⟨ret_bool (uh HF).symm,hbl.trans (((Below.refl _ _).alloc hbl.size _).trans (hb1.mono (Nat.le_trans hbl.size (by simp))))⟩
   ·have A' : ∀ j (h : j < xs.length),j < k + 1 → p xs[j] = true:=by
     intro j h h1
     by_cases e : j = k
     ·subst e; exact hp
     ·exact uh HA j h (by omega)
    have HA':=hide A'
    clear A'
    go_wp2_with fail
    refine (uh HC _).mono ?_
    rintro e w1 ⟨rfl,hb1⟩
    rw [hp]
    go_wp2
    go_roundg (xs.length - (k + 1))
    case measure => have:=uh HG; omega
    case rel => exact ⟨k + 1,by omega,rfl,by go_num,hbl.trans (((Below.refl _ _).alloc hbl.size _).trans (hb1.mono (Nat.le_trans hbl.size (by simp)))),uh HA'⟩
  ·have e : k = xs.length:=by omega
   have T : xs.all p = true:=by
    rw [List.all_eq_true]
    intro x hx
    obtain ⟨j,hj,rfl⟩:=List.getElem_of_mem hx
    exact uh HA j hj (by omega)
   have HT:=hide T
   clear T
   go_wp2
   go_ret
   exact ⟨ret_bool (uh HT).symm,hbl⟩
set_option maxHeartbeats 400000 in
theorem everyVar_varOK_ok (p : DVar → Bool) (hf : ∀ (x : DVar) cs w,RVar 0 w cs x → Calls Tryz.prog 36 #[valOfVar cs] w (Ans (.bool (p x)) w)) (xs : List DVar) (v : Value) (w : World) (hv : SlAt 3 48 RVar 0 w v xs) :
  Calls Tryz.prog 34 #[v,.func (.func 36) #[] #[]] w (Ans (.bool (xs.all p)) w):=by
 obtain ⟨a,cap,rfl,_,hn,hx⟩:=hv
 unfold Len at hn
 have HX:=hide hx
 have HFN:=hide hf
 clear hx hf
 go_enter Tryz.func34,Tryz.ntmps34
 go_wp2
 go_loopg [6,9] xs.length (fun g x i wr => ∃ (k : Nat),k ≤ xs.length ∧ g = xs.length - k ∧ i = .int .i64 k ∧ Below w.heap.size w wr ∧ ∀ j (h : j < xs.length),j < k → p xs[j] = true)
 case atStart => exact ⟨0,Nat.zero_le _,by omega,rfl,Below.refl _ _,fun j _ h => absurd h (Nat.not_lt_zero _)⟩
 case round =>
  obtain ⟨k,hk,hg,rfl,hbl,hall⟩:=hrel
  have HG:=hide hg
  have HA:=hide hall
  clear hg hall
  by_cases hlt : k < xs.length
  ·obtain ⟨b,o,cs,rfl,_,hb,hcs,hc,hR⟩:=uh HX k hlt
   have hR:=RVar_kept.stays _ _ _ _ _ hbl hR
   have hc : ∀ j (hj : j < cs.length),wr.cell? ⟨b,o + k * 3 + j,none⟩ = some cs[j]:=fun j hj => by rw [hbl.cell (p:=⟨b,_,none⟩) hb]; exact hc j hj
   have hcall:=fun ob => uh HFN xs[k] cs (wr.alloc ob) (RVar_kept.stays _ _ _ _ _ ((Below.refl _ _).alloc (Nat.le_refl _) ob) hR)
   obtain ⟨cl,rfl,hsn,hty,g1⟩:=hR
   obtain ⟨aa1,ca1,rfl⟩:=g1.shape
   clear g1
   have c0:=hc 0 (by simp)
   have c1:=hc 1 (by simp)
   have c2:=hc 2 (by simp)
   simp only [Nat.mul_one,Nat.add_zero,List.getElem_cons_zero,List.getElem_cons_succ] at c0 c1 c2
   simp only [valOfVar,List.headD_cons] at hcall
   have HC:=hide hcall
   clear hc hcs hcall
   cases hp : p xs[k]
   ·have F : xs.all p = false:=by
     rw [List.all_eq_false]
     exact ⟨xs[k],List.getElem_mem hlt,by rw [hp]; decide⟩
    have HF:=hide F
    clear F
    go_wp2_with fail
    refine (uh HC _).mono ?_
    rintro e w1 ⟨rfl,hb1⟩
    rw [hp]
    go_wp2
    go_ret
    exact ⟨ret_bool (uh HF).symm,hbl.trans (((Below.refl _ _).alloc hbl.size _).trans (hb1.mono (Nat.le_trans hbl.size (by simp))))⟩
   ·have A' : ∀ j (h : j < xs.length),j < k + 1 → p xs[j] = true:=by
     intro j h h1
     by_cases e : j = k
     ·subst e; exact hp
     ·exact uh HA j h (by omega)
    have HA':=hide A'
    clear A'
    go_wp2_with fail
    refine (uh HC _).mono ?_
    rintro e w1 ⟨rfl,hb1⟩
    rw [hp]
    go_wp2
    go_roundg (xs.length - (k + 1))
    case measure => have:=uh HG; omega
    case rel => exact ⟨k + 1,by omega,rfl,by go_num,hbl.trans (((Below.refl _ _).alloc hbl.size _).trans (hb1.mono (Nat.le_trans hbl.size (by simp)))),uh HA'⟩
  ·have e : k = xs.length:=by omega
   have T : xs.all p = true:=by
    rw [List.all_eq_true]
    intro x hx
    obtain ⟨j,hj,rfl⟩:=List.getElem_of_mem hx
    exact uh HA j hj (by omega)
   have HT:=hide T
   clear T
   go_wp2
   go_ret
   exact ⟨ret_bool (uh HT).symm,hbl⟩
set_option maxHeartbeats 400000 in
theorem everyEq_equationOK_ok (p : DEq → Bool) (hf : ∀ (x : DEq) cs w,REq 0 w cs x → Calls Tryz.prog 38 #[valOfEq cs] w (Ans (.bool (p x)) w)) (xs : List DEq) (v : Value) (w : World) (hv : SlAt 4 88 REq 0 w v xs) :
  Calls Tryz.prog 37 #[v,.func (.func 38) #[] #[]] w (Ans (.bool (xs.all p)) w):=by
 obtain ⟨a,cap,rfl,_,hn,hx⟩:=hv
 unfold Len at hn
 have HX:=hide hx
 have HFN:=hide hf
 clear hx hf
 go_enter Tryz.func37,Tryz.ntmps37
 go_wp2
 go_loopg [6,9] xs.length (fun g x i wr => ∃ (k : Nat),k ≤ xs.length ∧ g = xs.length - k ∧ i = .int .i64 k ∧ Below w.heap.size w wr ∧ ∀ j (h : j < xs.length),j < k → p xs[j] = true)
 case atStart => exact ⟨0,Nat.zero_le _,by omega,rfl,Below.refl _ _,fun j _ h => absurd h (Nat.not_lt_zero _)⟩
 case round =>
  obtain ⟨k,hk,hg,rfl,hbl,hall⟩:=hrel
  have HG:=hide hg
  have HA:=hide hall
  clear hg hall
  by_cases hlt : k < xs.length
  ·obtain ⟨b,o,cs,rfl,_,hb,hcs,hc,hR⟩:=uh HX k hlt
   have hR:=REq_kept.stays _ _ _ _ _ hbl hR
   have hc : ∀ j (hj : j < cs.length),wr.cell? ⟨b,o + k * 4 + j,none⟩ = some cs[j]:=fun j hj => by rw [hbl.cell (p:=⟨b,_,none⟩) hb]; exact hc j hj
   have hcall:=fun ob => uh HFN xs[k] cs (wr.alloc ob) (REq_kept.stays _ _ _ _ _ ((Below.refl _ _).alloc (Nat.le_refl _) ob) hR)
   obtain ⟨l,c,aa,rfl,hsn,g1,g2,g3⟩:=hR
   obtain ⟨aa1,ca1,rfl⟩:=g1.shape
   clear g1
   obtain ⟨aa2,ca2,rfl⟩:=g2.shape
   clear g2
   obtain ⟨aa3,ca3,rfl⟩:=g3.shape
   clear g3
   have c0:=hc 0 (by simp)
   have c1:=hc 1 (by simp)
   have c2:=hc 2 (by simp)
   have c3:=hc 3 (by simp)
   simp only [Nat.mul_one,Nat.add_zero,List.getElem_cons_zero,List.getElem_cons_succ] at c0 c1 c2 c3
   simp only [valOfEq,List.headD_cons] at hcall
   have HC:=hide hcall
   clear hc hcs hcall
   cases hp : p xs[k]
   ·have F : xs.all p = false:=by
     rw [List.all_eq_false]
     exact ⟨xs[k],List.getElem_mem hlt,by rw [hp]; decide⟩
    have HF:=hide F
    clear F
    go_wp2_with fail
    refine (uh HC _).mono ?_
    rintro e w1 ⟨rfl,hb1⟩
    rw [hp]
    go_wp2
    go_ret
    exact ⟨ret_bool (uh HF).symm,hbl.trans (((Below.refl _ _).alloc hbl.size _).trans (hb1.mono (Nat.le_trans hbl.size (by simp))))⟩
   ·have A' : ∀ j (h : j < xs.length),j < k + 1 → p xs[j] = true:=by
     intro j h h1
     by_cases e : j = k
     ·subst e; exact hp
     ·exact uh HA j h (by omega)
    have HA':=hide A'
    clear A'
    go_wp2_with fail
    refine (uh HC _).mono ?_
    rintro e w1 ⟨rfl,hb1⟩
    rw [hp]
    go_wp2
    go_roundg (xs.length - (k + 1))
    case measure => have:=uh HG; omega
    case rel => exact ⟨k + 1,by omega,rfl,by go_num,hbl.trans (((Below.refl _ _).alloc hbl.size _).trans (hb1.mono (Nat.le_trans hbl.size (by simp)))),uh HA'⟩
  ·have e : k = xs.length:=by omega
   have T : xs.all p = true:=by
    rw [List.all_eq_true]
    intro x hx
    obtain ⟨j,hj,rfl⟩:=List.getElem_of_mem hx
    exact uh HA j hj (by omega)
   have HT:=hide T
   clear T
   go_wp2
   go_ret
   exact ⟨ret_bool (uh HT).symm,hbl⟩
set_option maxHeartbeats 400000 in
theorem everyNode_nodeOK_ok (p : DNode → Bool) (hf : ∀ (x : DNode) cs w,RNode 0 w cs x → Calls Tryz.prog 24 #[valOfNode cs] w (Ans (.bool (p x)) w)) (xs : List DNode) (v : Value) (w : World) (hv : SlAt 5 112 RNode 0 w v xs) :
  Calls Tryz.prog 23 #[v,.func (.func 24) #[] #[]] w (Ans (.bool (xs.all p)) w):=by
 obtain ⟨a,cap,rfl,_,hn,hx⟩:=hv
 unfold Len at hn
 have HX:=hide hx
 have HFN:=hide hf
 clear hx hf
 go_enter Tryz.func23,Tryz.ntmps23
 go_wp2
 go_loopg [6,9] xs.length (fun g x i wr => ∃ (k : Nat),k ≤ xs.length ∧ g = xs.length - k ∧ i = .int .i64 k ∧ Below w.heap.size w wr ∧ ∀ j (h : j < xs.length),j < k → p xs[j] = true)
 case atStart => exact ⟨0,Nat.zero_le _,by omega,rfl,Below.refl _ _,fun j _ h => absurd h (Nat.not_lt_zero _)⟩
 case round =>
  obtain ⟨k,hk,hg,rfl,hbl,hall⟩:=hrel
  have HG:=hide hg
  have HA:=hide hall
  clear hg hall
  by_cases hlt : k < xs.length
  ·obtain ⟨b,o,cs,rfl,_,hb,hcs,hc,hR⟩:=uh HX k hlt
   have hR:=RNode_kept.stays _ _ _ _ _ hbl hR
   have hc : ∀ j (hj : j < cs.length),wr.cell? ⟨b,o + k * 5 + j,none⟩ = some cs[j]:=fun j hj => by rw [hbl.cell (p:=⟨b,_,none⟩) hb]; exact hc j hj
   have hcall:=fun ob => uh HFN xs[k] cs (wr.alloc ob) (RNode_kept.stays _ _ _ _ _ ((Below.refl _ _).alloc (Nat.le_refl _) ob) hR)
   obtain ⟨ni,no,nv,ne,rfl,hsn,g1,g2,g3,g4⟩:=hR
   obtain ⟨aa1,ca1,rfl⟩:=g1.shape
   clear g1
   obtain ⟨aa2,ca2,rfl⟩:=g2.shape
   clear g2
   obtain ⟨aa3,ca3,rfl⟩:=g3.shape
   clear g3
   obtain ⟨aa4,ca4,rfl⟩:=g4.shape
   clear g4
   have c0:=hc 0 (by simp)
   have c1:=hc 1 (by simp)
   have c2:=hc 2 (by simp)
   have c3:=hc 3 (by simp)
   have c4:=hc 4 (by simp)
   simp only [Nat.mul_one,Nat.add_zero,List.getElem_cons_zero,List.getElem_cons_succ] at c0 c1 c2 c3 c4
   simp only [valOfNode,List.headD_cons] at hcall
   have HC:=hide hcall
   clear hc hcs hcall
   cases hp : p xs[k]
   ·have F : xs.all p = false:=by
     rw [List.all_eq_false]
     exact ⟨xs[k],List.getElem_mem hlt,by rw [hp]; decide⟩
    have HF:=hide F
    clear F
    go_wp2_with fail
    refine (uh HC _).mono ?_
    rintro e w1 ⟨rfl,hb1⟩
    rw [hp]
    go_wp2
    go_ret
    exact ⟨ret_bool (uh HF).symm,hbl.trans (((Below.refl _ _).alloc hbl.size _).trans (hb1.mono (Nat.le_trans hbl.size (by simp))))⟩
   ·have A' : ∀ j (h : j < xs.length),j < k + 1 → p xs[j] = true:=by
     intro j h h1
     by_cases e : j = k
     ·subst e; exact hp
     ·exact uh HA j h (by omega)
    have HA':=hide A'
    clear A'
    go_wp2_with fail
    refine (uh HC _).mono ?_
    rintro e w1 ⟨rfl,hb1⟩
    rw [hp]
    go_wp2
    go_roundg (xs.length - (k + 1))
    case measure => have:=uh HG; omega
    case rel => exact ⟨k + 1,by omega,rfl,by go_num,hbl.trans (((Below.refl _ _).alloc hbl.size _).trans (hb1.mono (Nat.le_trans hbl.size (by simp)))),uh HA'⟩
  ·have e : k = xs.length:=by omega
   have T : xs.all p = true:=by
    rw [List.all_eq_true]
    intro x hx
    obtain ⟨j,hj,rfl⟩:=List.getElem_of_mem hx
    exact uh HA j hj (by omega)
   have HT:=hide T
   clear T
   go_wp2
   go_ret
   exact ⟨ret_bool (uh HT).symm,hbl⟩
end Go.Proofs.YtajabbnlbopcbaaGreatDoor
