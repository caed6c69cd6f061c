import Derived.Test.YtajabbnlbopcbaaGreatDoorData
import Derived.Lib.ConvBytes
namespace Go.Proofs.YtajabbnlbopcbaaGreatDoor
open Go.RowKit
set_option linter.unusedSimpArgs false
set_option linter.unusedVariables false
def RByte (_ : Nat) (_ : World) (cs : List Value) (x : Int) : Prop:=cs = [.int .u8 x] ∧ 0 ≤ x ∧ x ≤ 255
theorem RByte_kept : KeptBy RByte:=fun _ _ _ _ _ _ h => h
def valOfByte (cs : List Value) : Value:=cs.headD (.bool false)
def valOfStr (cs : List Value) : Value:=cs.headD (.bool false)
def valOfItems (cs : List Value) : Value:=cs.headD (.bool false)
def valOfCond (cs : List Value) : Value:=.agg cs.toArray
def valOfItem (cs : List Value) : Value:=.agg cs.toArray
def valOfVar (cs : List Value) : Value:=.agg cs.toArray
def valOfEq (cs : List Value) : Value:=.agg cs.toArray
def valOfNode (cs : List Value) : Value:=.agg cs.toArray
set_option maxHeartbeats 400000 in
theorem everyByte_isWordByte_ok (p : Int → Bool) (hf : ∀ (x : Int) cs w,RByte 0 w cs x → Calls Tryz.prog 85 #[valOfByte cs] w (Ans (.bool (p x)) w)) (xs : List Int) (v : Value) (w : World) (hv : SlAt 1 1 RByte 0 w v xs) :
  Calls Tryz.prog 84 #[v,.func (.func 85) #[] #[]] w (Ans (.bool (xs.all p)) w):=by
 obtain ⟨a,cap,rfl,_,hn,hx⟩:=hv
 unfold Len at hn
 have HX:=hide hx
 have HFN:=hide hf
 clear hx hf
 go_enter Tryz.func84,Tryz.ntmps84
 go_wp2
 go_loopg [6,9] xs.length (fun g x i wr => ∃ (k : Nat),k ≤ xs.length ∧ g = xs.length - k ∧ i = .int .i64 k ∧ Below w.heap.size w wr ∧ ∀ j (h : j < xs.length),j < k → p xs[j] = true)
 case atStart => exact ⟨0,Nat.zero_le _,by omega,rfl,Below.refl _ _,fun j _ h => absurd h (Nat.not_lt_zero _)⟩
 case round =>
  obtain ⟨k,hk,hg,rfl,hbl,hall⟩:=hrel
  have HG:=hide hg
  have HA:=hide hall
  clear hg hall
  by_cases hlt : k < xs.length
  ·obtain ⟨b,o,cs,rfl,_,hb,hcs,hc,hR⟩:=uh HX k hlt
   have hR:=RByte_kept.stays _ _ _ _ _ hbl hR
   have hc : ∀ j (hj : j < cs.length),wr.cell? ⟨b,o + k * 1 + j,none⟩ = some cs[j]:=fun j hj => by rw [hbl.cell (p:=⟨b,_,none⟩) hb]; exact hc j hj
   have hcall:=uh HFN xs[k] cs wr hR
   obtain ⟨rfl,hx0,hx1⟩:=hR
   have c0:=hc 0 (by simp)
   simp only [Nat.mul_one,Nat.add_zero,List.getElem_cons_zero,List.getElem_cons_succ] at c0
   simp only [valOfByte,List.headD_cons] at hcall
   have HC:=hide hcall
   clear hc hcs hcall
   cases hp : p xs[k]
   ·have F : xs.all p = false:=by
     rw [List.all_eq_false]
     exact ⟨xs[k],List.getElem_mem hlt,by rw [hp]; decide⟩
    have HF:=hide F
    clear F
    go_wp2_with fail
    refine (uh HC).mono ?_
    rintro e w1 ⟨rfl,hb1⟩
    rw [hp]
    go_wp2
    go_ret
    exact ⟨ret_bool (uh HF).symm,hbl.trans (hb1.mono hbl.size)⟩
   ·have A' : ∀ j (h : j < xs.length),j < k + 1 → p xs[j] = true:=by
     intro j h h1
     by_cases e : j = k
     ·subst e; exact hp
     ·exact uh HA j h (by omega)
    have HA':=hide A'
    clear A'
    go_wp2_with fail
    refine (uh HC).mono ?_
    rintro e w1 ⟨rfl,hb1⟩
    rw [hp]
    go_wp2
    go_roundg (xs.length - (k + 1))
    case measure => have:=uh HG; omega
    case rel => exact ⟨k + 1,by omega,rfl,by go_num,hbl.trans (hb1.mono hbl.size),uh HA'⟩
  ·have e : k = xs.length:=by omega
   have T : xs.all p = true:=by
    rw [List.all_eq_true]
    intro x hx
    obtain ⟨j,hj,rfl⟩:=List.getElem_of_mem hx
    exact uh HA j hj (by omega)
   have HT:=hide T
   clear T
   go_wp2
   go_ret
   exact ⟨ret_bool (uh HT).symm,hbl⟩
set_option maxHeartbeats 400000 in
theorem everyByte_isDigit_ok (p : Int → Bool) (hf : ∀ (x : Int) cs w,RByte 0 w cs x → Calls Tryz.prog 69 #[valOfByte cs] w (Ans (.bool (p x)) w)) (xs : List Int) (v : Value) (w : World) (hv : SlAt 1 1 RByte 0 w v xs) :
  Calls Tryz.prog 84 #[v,.func (.func 69) #[] #[]] w (Ans (.bool (xs.all p)) w):=by
 obtain ⟨a,cap,rfl,_,hn,hx⟩:=hv
 unfold Len at hn
 have HX:=hide hx
 have HFN:=hide hf
 clear hx hf
 go_enter Tryz.func84,Tryz.ntmps84
 go_wp2
 go_loopg [6,9] xs.length (fun g x i wr => ∃ (k : Nat),k ≤ xs.length ∧ g = xs.length - k ∧ i = .int .i64 k ∧ Below w.heap.size w wr ∧ ∀ j (h : j < xs.length),j < k → p xs[j] = true)
 case atStart => exact ⟨0,Nat.zero_le _,by omega,rfl,Below.refl _ _,fun j _ h => absurd h (Nat.not_lt_zero _)⟩
 case round =>
  obtain ⟨k,hk,hg,rfl,hbl,hall⟩:=hrel
  have HG:=hide hg
  have HA:=hide hall
  clear hg hall
  by_cases hlt : k < xs.length
  ·obtain ⟨b,o,cs,rfl,_,hb,hcs,hc,hR⟩:=uh HX k hlt
   have hR:=RByte_kept.stays _ _ _ _ _ hbl hR
   have hc : ∀ j (hj : j < cs.length),wr.cell? ⟨b,o + k * 1 + j,none⟩ = some cs[j]:=fun j hj => by rw [hbl.cell (p:=⟨b,_,none⟩) hb]; exact hc j hj
   have hcall:=uh HFN xs[k] cs wr hR
   obtain ⟨rfl,hx0,hx1⟩:=hR
   have c0:=hc 0 (by simp)
   simp only [Nat.mul_one,Nat.add_zero,List.getElem_cons_zero,List.getElem_cons_succ] at c0
   simp only [valOfByte,List.headD_cons] at hcall
   have HC:=hide hcall
   clear hc hcs hcall
   cases hp : p xs[k]
   ·have F : xs.all p = false:=by
     rw [List.all_eq_false]
     exact ⟨xs[k],List.getElem_mem hlt,by rw [hp]; decide⟩
    have HF:=hide F
    clear F
    go_wp2_with fail
    refine (uh HC).mono ?_
    rintro e w1 ⟨rfl,hb1⟩
    rw [hp]
    go_wp2
    go_ret
    exact ⟨ret_bool (uh HF).symm,hbl.trans (hb1.mono hbl.size)⟩
   ·have A' : ∀ j (h : j < xs.length),j < k + 1 → p xs[j] = true:=by
     intro j h h1
     by_cases e : j = k
     ·subst e; exact hp
     ·exact uh HA j h (by omega)
    have HA':=hide A'
    clear A'
    go_wp2_with fail
    refine (uh HC).mono ?_
    rintro e w1 ⟨rfl,hb1⟩
    rw [hp]
    go_wp2
    go_roundg (xs.length - (k + 1))
    case measure => have:=uh HG; omega
    case rel => exact ⟨k + 1,by omega,rfl,by go_num,hbl.trans (hb1.mono hbl.size),uh HA'⟩
  ·have e : k = xs.length:=by omega
   have T : xs.all p = true:=by
    rw [List.all_eq_true]
    intro x hx
    obtain ⟨j,hj,rfl⟩:=List.getElem_of_mem hx
    exact uh HA j hj (by omega)
   have HT:=hide T
   clear T
   go_wp2
   go_ret
   exact ⟨ret_bool (uh HT).symm,hbl⟩
set_option maxHeartbeats 400000 in
theorem everyStr_nameOK_ok (p : ByteArray → Bool) (hf : ∀ (x : ByteArray) cs w,RStr 0 w cs x → Calls Tryz.prog 33 #[valOfStr cs] w (Ans (.bool (p x)) w)) (xs : List ByteArray) (v : Value) (w : World) (hv : SlAt 1 16 RStr 0 w v xs) :
  Calls Tryz.prog 57 #[v,.func (.func 33) #[] #[]] w (Ans (.bool (xs.all p)) w):=by
 obtain ⟨a,cap,rfl,_,hn,hx⟩:=hv
 unfold Len at hn
 have HX:=hide hx
 have HFN:=hide hf
 clear hx hf
 go_enter Tryz.func57,Tryz.ntmps57
 go_wp2
 go_loopg [6,9] xs.length (fun g x i wr => ∃ (k : Nat),k ≤ xs.length ∧ g = xs.length - k ∧ i = .int .i64 k ∧ Below w.heap.size w wr ∧ ∀ j (h : j < xs.length),j < k → p xs[j] = true)
 case atStart => exact ⟨0,Nat.zero_le _,by omega,rfl,Below.refl _ _,fun j _ h => absurd h (Nat.not_lt_zero _)⟩
 case round =>
  obtain ⟨k,hk,hg,rfl,hbl,hall⟩:=hrel
  have HG:=hide hg
  have HA:=hide hall
  clear hg hall
  by_cases hlt : k < xs.length
  ·obtain ⟨b,o,cs,rfl,_,hb,hcs,hc,hR⟩:=uh HX k hlt
   have hR:=RStr_kept.stays _ _ _ _ _ hbl hR
   have hc : ∀ j (hj : j < cs.length),wr.cell? ⟨b,o + k * 1 + j,none⟩ = some cs[j]:=fun j hj => by rw [hbl.cell (p:=⟨b,_,none⟩) hb]; exact hc j hj
   have hcall:=uh HFN xs[k] cs wr hR
   obtain ⟨rfl,hsn⟩:=hR
   have c0:=hc 0 (by simp)
   simp only [Nat.mul_one,Nat.add_zero,List.getElem_cons_zero,List.getElem_cons_succ] at c0
   simp only [valOfStr,List.headD_cons] at hcall
   have HC:=hide hcall
   clear hc hcs hcall
   cases hp : p xs[k]
   ·have F : xs.all p = false:=by
     rw [List.all_eq_false]
     exact ⟨xs[k],List.getElem_mem hlt,by rw [hp]; decide⟩
    have HF:=hide F
    clear F
    go_wp2_with fail
    refine (uh HC).mono ?_
    rintro e w1 ⟨rfl,hb1⟩
    rw [hp]
    go_wp2
    go_ret
    exact ⟨ret_bool (uh HF).symm,hbl.trans (hb1.mono hbl.size)⟩
   ·have A' : ∀ j (h : j < xs.length),j < k + 1 → p xs[j] = true:=by
     intro j h h1
     by_cases e : j = k
     ·subst e; exact hp
     ·exact uh HA j h (by omega)
    have HA':=hide A'
    clear A'
    go_wp2_with fail
    refine (uh HC).mono ?_
    rintro e w1 ⟨rfl,hb1⟩
    rw [hp]
    go_wp2
    go_roundg (xs.length - (k + 1))
    case measure => have:=uh HG; omega
    case rel => exact ⟨k + 1,by omega,rfl,by go_num,hbl.trans (hb1.mono hbl.size),uh HA'⟩
  ·have e : k = xs.length:=by omega
   have T : xs.all p = true:=by
    rw [List.all_eq_true]
    intro x hx
    obtain ⟨j,hj,rfl⟩:=List.getElem_of_mem hx
    exact uh HA j hj (by omega)
   have HT:=hide T
   clear T
   go_wp2
   go_ret
   exact ⟨ret_bool (uh HT).symm,hbl⟩
set_option maxHeartbeats 400000 in
theorem everyCond_condOK_ok (p : DCond → Bool) (hf : ∀ (x : DCond) cs w,RCond 0 w cs x → Calls Tryz.prog 56 #[valOfCond cs] w (Ans (.bool (p x)) w)) (xs : List DCond) (v : Value) (w : World) (hv : SlAt 2 24 RCond 0 w v xs) :
  Calls Tryz.prog 55 #[v,.func (.func 56) #[] #[]] w (Ans (.bool (xs.all p)) w):=by
 obtain ⟨a,cap,rfl,_,hn,hx⟩:=hv
 unfold Len at hn
 have HX:=hide hx
 have HFN:=hide hf
 clear hx hf
 go_enter Tryz.func55,Tryz.ntmps55
 go_wp2
 go_loopg [6,9] xs.length (fun g x i wr => ∃ (k : Nat),k ≤ xs.length ∧ g = xs.length - k ∧ i = .int .i64 k ∧ Below w.heap.size w wr ∧ ∀ j (h : j < xs.length),j < k → p xs[j] = true)
 case atStart => exact ⟨0,Nat.zero_le _,by omega,rfl,Below.refl _ _,fun j _ h => absurd h (Nat.not_lt_zero _)⟩
 case round =>
  obtain ⟨k,hk,hg,rfl,hbl,hall⟩:=hrel
  have HG:=hide hg
  have HA:=hide hall
  clear hg hall
  by_cases hlt : k < xs.length
  ·obtain ⟨b,o,cs,rfl,_,hb,hcs,hc,hR⟩:=uh HX k hlt
   have hR:=RCond_kept.stays _ _ _ _ _ hbl hR
   have hc : ∀ j (hj : j < cs.length),wr.cell? ⟨b,o + k * 2 + j,none⟩ = some cs[j]:=fun j hj => by rw [hbl.cell (p:=⟨b,_,none⟩) hb]; exact hc j hj
   have hcall:=fun ob => uh HFN xs[k] cs (wr.alloc ob) (RCond_kept.stays _ _ _ _ _ ((Below.refl _ _).alloc (Nat.le_refl _) ob) hR)
   obtain ⟨rfl,hsn⟩:=hR
   have c0:=hc 0 (by simp)
   have c1:=hc 1 (by simp)
   simp only [Nat.mul_one,Nat.add_zero,List.getElem_cons_zero,List.getElem_cons_succ] at c0 c1
   simp only [valOfCond,List.headD_cons] at hcall
   have HC:=hide hcall
   clear hc hcs hcall
   cases hp : p xs[k]
   ·have F : xs.all p = false:=by
     rw [List.all_eq_false]
     exact ⟨xs[k],List.getElem_mem hlt,by rw [hp]; decide⟩
    have HF:=hide F
    clear F
    go_wp2_with fail
    refine (uh HC _).mono ?_
    rintro e w1 ⟨rfl,hb1⟩
    rw [hp]
    go_wp2
    go_ret
    exact ⟨ret_bool (uh HF).symm,hbl.trans (((Below.refl _ _).alloc hbl.size _).trans (hb1.mono (Nat.le_trans hbl.size (by simp))))⟩
   ·have A' : ∀ j (h : j < xs.length),j < k + 1 → p xs[j] = true:=by
     intro j h h1
     by_cases e : j = k
     ·subst e; exact hp
     ·exact uh HA j h (by omega)
    have HA':=hide A'
    clear A'
    go_wp2_with fail
    refine (uh HC _).mono ?_
    rintro e w1 ⟨rfl,hb1⟩
    rw [hp]
    go_wp2
    go_roundg (xs.length - (k + 1))
    case measure => have:=uh HG; omega
    case rel => exact ⟨k + 1,by omega,rfl,by go_num,hbl.trans (((Below.refl _ _).alloc hbl.size _).trans (hb1.mono (Nat.le_trans hbl.size (by simp)))),uh HA'⟩
  ·have e : k = xs.length:=by omega
   have T : xs.all p = true:=by
    rw [List.all_eq_true]
    intro x hx
    obtain ⟨j,hj,rfl⟩:=List.getElem_of_mem hx
    exact uh HA j hj (by omega)
   have HT:=hide T
   clear T
   go_wp2
   go_ret
   exact ⟨ret_bool (uh HT).symm,hbl⟩
set_option maxHeartbeats 400000 in
theorem everyItem_itemOK_ok (p : DItem → Bool) (hf : ∀ (x : DItem) cs w,RItem 0 w cs x → Calls Tryz.prog 88 #[valOfItem cs] w (Ans (.bool (p x)) w)) (xs : List DItem) (v : Value) (w : World) (hv : SlAt 3 32 RItem 0 w v xs) :
  Calls Tryz.prog 87 #[v,.func (.func 88) #[] #[]] w (Ans (.bool (xs.all p)) w):=by
 obtain ⟨a,cap,rfl,_,hn,hx⟩:=hv
 unfold Len at hn
 have HX:=hide hx
 have HFN:=hide hf
 clear hx hf
 go_enter Tryz.func87,Tryz.ntmps87
 go_wp2
 go_loopg [6,9] xs.length (fun g x i wr => ∃ (k : Nat),k ≤ xs.length ∧ g = xs.length - k ∧ i = .int .i64 k ∧ Below w.heap.size w wr ∧ ∀ j (h : j < xs.length),j < k → p xs[j] = true)
 case atStart => exact ⟨0,Nat.zero_le _,by omega,rfl,Below.refl _ _,fun j _ h => absurd h (Nat.not_lt_zero _)⟩
 case round =>
  obtain ⟨k,hk,hg,rfl,hbl,hall⟩:=hrel
  have HG:=hide hg
  have HA:=hide hall
  clear hg hall
  by_cases hlt : k < xs.length
  ·obtain ⟨b,o,cs,rfl,_,hb,hcs,hc,hR⟩:=uh HX k hlt
   have hR:=RItem_kept.stays _ _ _ _ _ hbl hR
   have hc : ∀ j (hj : j < cs.length),wr.cell? ⟨b,o + k * 3 + j,none⟩ = some cs[j]:=fun j hj => by rw [hbl.cell (p:=⟨b,_,none⟩) hb]; exact hc j hj
   have hcall:=fun ob => uh HFN xs[k] cs (wr.alloc ob) (RItem_kept.stays _ _ _ _ _ ((Below.refl _ _).alloc (Nat.le_refl _) ob) hR)
   obtain ⟨rfl,hsn,ho,hv⟩:=hR
   have c0:=hc 0 (by simp)
   have c1:=hc 1 (by simp)
   have c2:=hc 2 (by simp)
   simp only [Nat.mul_one,Nat.add_zero,List.getElem_cons_zero,List.getElem_cons_succ] at c0 c1 c2
   simp only [valOfItem,List.headD_cons] at hcall
   have HC:=hide hcall
   clear hc hcs hcall
   cases hp : p xs[k]
   ·have F : xs.all p = false:=by
     rw [List.all_eq_false]
     exact ⟨xs[k],List.getElem_mem hlt,by rw [hp]; decide⟩
    have HF:=hide F
    clear F
    go_wp2_with fail
    refine (uh HC _).mono ?_
    rintro e w1 ⟨rfl,hb1⟩
    rw [hp]
    go_wp2
    go_ret
    exact ⟨ret_bool (uh HF).symm,hbl.trans (((Below.refl _ _).alloc hbl.size _).trans (hb1.mono (Nat.le_trans hbl.size (by simp))))⟩
   ·have A' : ∀ j (h : j < xs.length),j < k + 1 → p xs[j] = true:=by
     intro j h h1
     by_cases e : j = k
     ·subst e; exact hp
     ·exact uh HA j h (by omega)
    have HA':=hide A'
    clear A'
    go_wp2_with fail
    refine (uh HC _).mono ?_
    rintro e w1 ⟨rfl,hb1⟩
    rw [hp]
    go_wp2
    go_roundg (xs.length - (k + 1))
    case measure => have:=uh HG; omega
    case rel => exact ⟨k + 1,by omega,rfl,by go_num,hbl.trans (((Below.refl _ _).alloc hbl.size _).trans (hb1.mono (Nat.le_trans hbl.size (by simp)))),uh HA'⟩
  ·have e : k = xs.length:=by omega
   have T : xs.all p = true:=by
    rw [List.all_eq_true]
    intro x hx
    obtain ⟨j,hj,rfl⟩:=List.getElem_of_mem hx
    exact uh HA j hj (by omega)
   have HT:=hide T
   clear T
   go_wp2
   go_ret
   exact ⟨ret_bool (uh HT).symm,hbl⟩
set_option maxHeartbeats 400000 in
theorem everyItems_codeOK_ok (p : (List DItem) → Bool) (hf : ∀ (x : (List DItem)) cs w,RItems 0 w cs x → Calls Tryz.prog 58 #[valOfItems cs] w (Ans (.bool (p x)) w)) (xs : List (List DItem)) (v : Value) (w : World) (hv : SlAt 1 24 RItems 0 w v xs) :
  Calls Tryz.prog 59 #[v,.func (.func 58) #[] #[]] w (Ans (.bool (xs.all p)) w):=by
 obtain ⟨a,cap,rfl,_,hn,hx⟩:=hv
 unfold Len at hn
 have HX:=hide hx
 have HFN:=hide hf
 clear hx hf
 go_enter Tryz.func59,Tryz.ntmps59
 go_wp2
 go_loopg [6,9] xs.length (fun g x i wr => ∃ (k : Nat),k ≤ xs.length ∧ g = xs.length - k ∧ i = .int .i64 k ∧ Below w.heap.size w wr ∧ ∀ j (h : j < xs.length),j < k → p xs[j] = true)
 case atStart => exact ⟨0,Nat.zero_le _,by omega,rfl,Below.refl _ _,fun j _ h => absurd h (Nat.not_lt_zero _)⟩
 case round =>
  obtain ⟨k,hk,hg,rfl,hbl,hall⟩:=hrel
  have HG:=hide hg
  have HA:=hide hall
  clear hg hall
  by_cases hlt : k < xs.length
  ·obtain ⟨b,o,cs,rfl,_,hb,hcs,hc,hR⟩:=uh HX k hlt
   have hR:=RItems_kept.stays _ _ _ _ _ hbl hR
   have hc : ∀ j (hj : j < cs.length),wr.cell? ⟨b,o + k * 1 + j,none⟩ = some cs[j]:=fun j hj => by rw [hbl.cell (p:=⟨b,_,none⟩) hb]; exact hc j hj
   have hcall:=uh HFN xs[k] cs wr hR
   obtain ⟨vl,rfl,hcl⟩:=hR
   obtain ⟨aa1,ca1,rfl⟩:=hcl.shape
   clear hcl
   have c0:=hc 0 (by simp)
   simp only [Nat.mul_one,Nat.add_zero,List.getElem_cons_zero,List.getElem_cons_succ] at c0
   simp only [valOfItems,List.headD_cons] at hcall
   have HC:=hide hcall
   clear hc hcs hcall
   cases hp : p xs[k]
   ·have F : xs.all p = false:=by
     rw [List.all_eq_false]
     exact ⟨xs[k],List.getElem_mem hlt,by rw [hp]; decide⟩
    have HF:=hide F
    clear F
    go_wp2_with fail
    refine (uh HC).mono ?_
    rintro e w1 ⟨rfl,hb1⟩
    rw [hp]
    go_wp2
    go_ret
    exact ⟨ret_bool (uh HF).symm,hbl.trans (hb1.mono hbl.size)⟩
   ·have A' : ∀ j (h : j < xs.length),j < k + 1 → p xs[j] = true:=by
     intro j h h1
     by_cases e : j = k
     ·subst e; exact hp
     ·exact uh HA j h (by omega)
    have HA':=hide A'
    clear A'
    go_wp2_with fail
    refine (uh HC).mono ?_
    rintro e w1 ⟨rfl,hb1⟩
    rw [hp]
    go_wp2
    go_roundg (xs.length - (k + 1))
    case measure => have:=uh HG; omega
    case rel => exact ⟨k + 1,by omega,rfl,by go_num,hbl.trans (hb1.mono hbl.size),uh HA'⟩
  ·have e : k = xs.length:=by omega
   have T : xs.all p = true:=by
    rw [List.all_eq_true]
    intro x hx
    obtain ⟨j,hj,rfl⟩:=List.getElem_of_mem hx
    exact uh HA j hj (by omega)
   have HT:=hide T
   clear T
   go_wp2
   go_ret
   exact ⟨ret_bool (uh HT).symm,hbl⟩
end Go.Proofs.YtajabbnlbopcbaaGreatDoor
