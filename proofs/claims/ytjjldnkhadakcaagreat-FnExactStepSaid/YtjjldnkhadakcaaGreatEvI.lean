import Derived.Test.YtjjldnkhadakcaaGreatChars
import Derived.Test.YtjjldnkhadakcaaGreatMData
import Derived.Test.YtjjldnkhadakcaaGreatMQ1
import Derived.Test.YtjjldnkhadakcaaGreatItems
import Derived.Test.YtjjldnkhadakcaaGreatData
import Derived.Deep.QuietTactic
import Derived.BigQuiet
namespace Go.Proofs.YtjjldnkhadakcaaGreat
open Go.RowKit
set_option linter.unusedSimpArgs false
set_option linter.unusedVariables false
theorem SlAt.lenI {α : Type} {sz byt lo : Nat} {R : Nat → World → List Value → α → Prop} {w : World} {v : Value} {xs : List α} (h : SlAt sz byt R lo w v xs) : xs.length ≤ 140737488355328:=by
 obtain ⟨_,_,_,_,h,_⟩:=h
 exact h
def valOfSlot (cs : List Value) : Value:=.agg cs.toArray
def valOfInt (cs : List Value) : Value:=cs.headD (.bool false)
set_option maxHeartbeats 1000000 in
theorem everySlotI (pb : Nat) (I : Nat → World → Prop) (J : World → Prop) (q : Nat → Bool) (xs : List DSlot) (v : Value) (w : World) (hS : ∀ k wr,I k wr → SlAt 2 24 RSlot 0 wr v xs) (hI : ∀ k w1 w2,I k w1 → Below w1.heap.size w1 w2 → I k w2)
  (hf : ∀ k (hk : k < xs.length) cs wr,I k wr → RSlot 0 wr cs xs[k] → Calls Tryz.prog 101 #[.pointer (some ⟨pb,0,none⟩),valOfSlot cs] wr fun e w' => e = .returned (.bool (q k)) ∧ (q k = true → I (k + 1) w') ∧ (q k = false → J w')) (h0 : I 0 w) :
  Calls Tryz.prog 100 #[v,.func (.func 101) #[.pointer (some ⟨pb,0,none⟩)] #[]] w fun e w' => e = .returned (.bool ((List.range xs.length).all q)) ∧ ((List.range xs.length).all q = true → I xs.length w') ∧ ((List.range xs.length).all q = false → J w'):=by
 obtain ⟨a,cap,rfl⟩:=(hS 0 w h0).shape
 have hn:=(hS 0 w h0).lenI
 have HS:=hide hS
 have HI:=hide hI
 have HFN:=hide hf
 have H0:=hide h0
 clear hS hI hf h0
 go_enter Tryz.func100,Tryz.ntmps100
 go_wp2
 go_loopg [6,9] xs.length (fun g x i wr => ∃ (k : Nat),k ≤ xs.length ∧ g = xs.length - k ∧ i = .int .i64 k ∧ I k wr ∧ ∀ j,j < k → q j = true)
 case atStart => exact ⟨0,Nat.zero_le _,by omega,rfl,uh H0,fun j h => absurd h (Nat.not_lt_zero _)⟩
 case round =>
  obtain ⟨k,hk,hg,rfl,hbl,hall⟩:=hrel
  have HG:=hide hg
  have HA:=hide hall
  have HBL:=hide hbl
  clear hg hall hbl
  by_cases hlt : k < xs.length
  ·obtain ⟨_,_,hv9,_,_,hx9⟩:=uh HS k wr (uh HBL)
   simp only [Value.slice.injEq] at hv9
   obtain ⟨rfl,_,rfl⟩:=hv9
   obtain ⟨b,o,cs,rfl,_,hb,hcs,hc,hR⟩:=hx9 k hlt
   clear hx9
   have hcall:=fun ob => uh HFN k hlt cs (wr.alloc ob) (uh HI k wr _ (uh HBL) ((Below.refl _ _).alloc (Nat.le_refl _) ob)) (RSlot_kept.stays _ _ _ _ _ ((Below.refl _ _).alloc (Nat.le_refl _) ob) hR)
   obtain ⟨rfl,hsn,ht⟩:=hR
   have c0:=hc 0 (by simp)
   have c1:=hc 1 (by simp)
   simp only [Nat.mul_one,Nat.add_zero,List.getElem_cons_zero,List.getElem_cons_succ] at c0 c1
   simp only [valOfSlot,List.headD_cons] at hcall
   have HC:=hide hcall
   clear hc hcs hcall
   cases hp : q k
   ·have HF : Hid ((List.range xs.length).all q = false):=by
     refine hide ?_
     rw [List.all_eq_false]
     exact ⟨k,List.mem_range.2 hlt,by rw [hp]; decide⟩
    go_wp2_with fail
    refine (uh HC _).mono ?_
    rintro e w1 ⟨rfl,-,hb1⟩
    have HB1:=hide (hb1 hp)
    rw [hp]
    clear hb1
    go_wp2
    go_ret
    exact ⟨ret_bool (uh HF).symm,fun h => absurd h (by rw [uh HF]; decide),fun _ => uh HB1⟩
   ·have A' : ∀ j,j < k + 1 → q j = true:=by
     intro j h1
     by_cases e : j = k
     ·subst e; exact hp
     ·exact uh HA j (by omega)
    have HA':=hide A'
    clear A'
    go_wp2_with fail
    refine (uh HC _).mono ?_
    rintro e w1 ⟨rfl,hb1,-⟩
    have HB1:=hide (hb1 hp)
    rw [hp]
    clear hb1
    go_wp2
    go_roundg (xs.length - (k + 1))
    case measure => have:=uh HG; omega
    case rel => exact ⟨k + 1,by omega,rfl,by go_num,uh HB1,uh HA'⟩
  ·have e : k = xs.length:=by omega
   have HT : Hid ((List.range xs.length).all q = true):=by
    refine hide ?_
    rw [List.all_eq_true]
    intro x hx
    exact uh HA x (by have:=List.mem_range.1 hx; omega)
   have HE:=hide (e ▸ uh HBL)
   go_wp2
   go_ret
   exact ⟨ret_bool (uh HT).symm,fun _ => uh HE,fun h => absurd h (by rw [uh HT]; decide)⟩
set_option maxHeartbeats 1000000 in
theorem everyNameI (pb : Nat) (I : Nat → World → Prop) (J : World → Prop) (q : Nat → Bool) (xs : List ByteArray) (v : Value) (w : World) (hS : ∀ k wr,I k wr → SlAt 1 16 RStr 0 wr v xs) (hI : ∀ k w1 w2,I k w1 → Below w1.heap.size w1 w2 → I k w2)
  (hf : ∀ k (hk : k < xs.length) cs wr,I k wr → RStr 0 wr cs xs[k] → Calls Tryz.prog 103 #[.pointer (some ⟨pb,0,none⟩),valOfStr cs] wr fun e w' => e = .returned (.bool (q k)) ∧ (q k = true → I (k + 1) w') ∧ (q k = false → J w')) (h0 : I 0 w) :
  Calls Tryz.prog 102 #[v,.func (.func 103) #[.pointer (some ⟨pb,0,none⟩)] #[]] w fun e w' => e = .returned (.bool ((List.range xs.length).all q)) ∧ ((List.range xs.length).all q = true → I xs.length w') ∧ ((List.range xs.length).all q = false → J w'):=by
 obtain ⟨a,cap,rfl⟩:=(hS 0 w h0).shape
 have hn:=(hS 0 w h0).lenI
 have HS:=hide hS
 have HI:=hide hI
 have HFN:=hide hf
 have H0:=hide h0
 clear hS hI hf h0
 go_enter Tryz.func102,Tryz.ntmps102
 go_wp2
 go_loopg [6,9] xs.length (fun g x i wr => ∃ (k : Nat),k ≤ xs.length ∧ g = xs.length - k ∧ i = .int .i64 k ∧ I k wr ∧ ∀ j,j < k → q j = true)
 case atStart => exact ⟨0,Nat.zero_le _,by omega,rfl,uh H0,fun j h => absurd h (Nat.not_lt_zero _)⟩
 case round =>
  obtain ⟨k,hk,hg,rfl,hbl,hall⟩:=hrel
  have HG:=hide hg
  have HA:=hide hall
  have HBL:=hide hbl
  clear hg hall hbl
  by_cases hlt : k < xs.length
  ·obtain ⟨_,_,hv9,_,_,hx9⟩:=uh HS k wr (uh HBL)
   simp only [Value.slice.injEq] at hv9
   obtain ⟨rfl,_,rfl⟩:=hv9
   obtain ⟨b,o,cs,rfl,_,hb,hcs,hc,hR⟩:=hx9 k hlt
   clear hx9
   have hcall:=uh HFN k hlt cs wr (uh HBL) hR
   obtain ⟨rfl,hsn⟩:=hR
   have c0:=hc 0 (by simp)
   simp only [Nat.mul_one,Nat.add_zero,List.getElem_cons_zero,List.getElem_cons_succ] at c0
   simp only [valOfStr,List.headD_cons] at hcall
   have HC:=hide hcall
   clear hc hcs hcall
   cases hp : q k
   ·have HF : Hid ((List.range xs.length).all q = false):=by
     refine hide ?_
     rw [List.all_eq_false]
     exact ⟨k,List.mem_range.2 hlt,by rw [hp]; decide⟩
    go_wp2_with fail
    refine (uh HC).mono ?_
    rintro e w1 ⟨rfl,-,hb1⟩
    have HB1:=hide (hb1 hp)
    rw [hp]
    clear hb1
    go_wp2
    go_ret
    exact ⟨ret_bool (uh HF).symm,fun h => absurd h (by rw [uh HF]; decide),fun _ => uh HB1⟩
   ·have A' : ∀ j,j < k + 1 → q j = true:=by
     intro j h1
     by_cases e : j = k
     ·subst e; exact hp
     ·exact uh HA j (by omega)
    have HA':=hide A'
    clear A'
    go_wp2_with fail
    refine (uh HC).mono ?_
    rintro e w1 ⟨rfl,hb1,-⟩
    have HB1:=hide (hb1 hp)
    rw [hp]
    clear hb1
    go_wp2
    go_roundg (xs.length - (k + 1))
    case measure => have:=uh HG; omega
    case rel => exact ⟨k + 1,by omega,rfl,by go_num,uh HB1,uh HA'⟩
  ·have e : k = xs.length:=by omega
   have HT : Hid ((List.range xs.length).all q = true):=by
    refine hide ?_
    rw [List.all_eq_true]
    intro x hx
    exact uh HA x (by have:=List.mem_range.1 hx; omega)
   have HE:=hide (e ▸ uh HBL)
   go_wp2
   go_ret
   exact ⟨ret_bool (uh HT).symm,fun _ => uh HE,fun h => absurd h (by rw [uh HT]; decide)⟩
set_option maxHeartbeats 1000000 in
theorem everyItemI (pb : Nat) (I : Nat → World → Prop) (J : World → Prop) (q : Nat → Bool) (xs : List DItem) (v : Value) (w : World) (hS : ∀ k wr,I k wr → SlAt 3 32 RItem 0 wr v xs) (hI : ∀ k w1 w2,I k w1 → Below w1.heap.size w1 w2 → I k w2)
  (hf : ∀ k (hk : k < xs.length) cs wr,I k wr → RItem 0 wr cs xs[k] → Calls Tryz.prog 151 #[.pointer (some ⟨pb,0,none⟩),valOfItem cs] wr fun e w' => e = .returned (.bool (q k)) ∧ (q k = true → I (k + 1) w') ∧ (q k = false → J w')) (h0 : I 0 w) :
  Calls Tryz.prog 150 #[v,.func (.func 151) #[.pointer (some ⟨pb,0,none⟩)] #[]] w fun e w' => e = .returned (.bool ((List.range xs.length).all q)) ∧ ((List.range xs.length).all q = true → I xs.length w') ∧ ((List.range xs.length).all q = false → J w'):=by
 obtain ⟨a,cap,rfl⟩:=(hS 0 w h0).shape
 have hn:=(hS 0 w h0).lenI
 have HS:=hide hS
 have HI:=hide hI
 have HFN:=hide hf
 have H0:=hide h0
 clear hS hI hf h0
 go_enter Tryz.func150,Tryz.ntmps150
 go_wp2
 go_loopg [6,9] xs.length (fun g x i wr => ∃ (k : Nat),k ≤ xs.length ∧ g = xs.length - k ∧ i = .int .i64 k ∧ I k wr ∧ ∀ j,j < k → q j = true)
 case atStart => exact ⟨0,Nat.zero_le _,by omega,rfl,uh H0,fun j h => absurd h (Nat.not_lt_zero _)⟩
 case round =>
  obtain ⟨k,hk,hg,rfl,hbl,hall⟩:=hrel
  have HG:=hide hg
  have HA:=hide hall
  have HBL:=hide hbl
  clear hg hall hbl
  by_cases hlt : k < xs.length
  ·obtain ⟨_,_,hv9,_,_,hx9⟩:=uh HS k wr (uh HBL)
   simp only [Value.slice.injEq] at hv9
   obtain ⟨rfl,_,rfl⟩:=hv9
   obtain ⟨b,o,cs,rfl,_,hb,hcs,hc,hR⟩:=hx9 k hlt
   clear hx9
   have hcall:=fun ob => uh HFN k hlt cs (wr.alloc ob) (uh HI k wr _ (uh HBL) ((Below.refl _ _).alloc (Nat.le_refl _) ob)) (RItem_kept.stays _ _ _ _ _ ((Below.refl _ _).alloc (Nat.le_refl _) ob) hR)
   obtain ⟨rfl,hsn,ho,hv⟩:=hR
   have c0:=hc 0 (by simp)
   have c1:=hc 1 (by simp)
   have c2:=hc 2 (by simp)
   simp only [Nat.mul_one,Nat.add_zero,List.getElem_cons_zero,List.getElem_cons_succ] at c0 c1 c2
   simp only [valOfItem,List.headD_cons] at hcall
   have HC:=hide hcall
   clear hc hcs hcall
   cases hp : q k
   ·have HF : Hid ((List.range xs.length).all q = false):=by
     refine hide ?_
     rw [List.all_eq_false]
     exact ⟨k,List.mem_range.2 hlt,by rw [hp]; decide⟩
    go_wp2_with fail
    refine (uh HC _).mono ?_
    rintro e w1 ⟨rfl,-,hb1⟩
    have HB1:=hide (hb1 hp)
    rw [hp]
    clear hb1
    go_wp2
    go_ret
    exact ⟨ret_bool (uh HF).symm,fun h => absurd h (by rw [uh HF]; decide),fun _ => uh HB1⟩
   ·have A' : ∀ j,j < k + 1 → q j = true:=by
     intro j h1
     by_cases e : j = k
     ·subst e; exact hp
     ·exact uh HA j (by omega)
    have HA':=hide A'
    clear A'
    go_wp2_with fail
    refine (uh HC _).mono ?_
    rintro e w1 ⟨rfl,hb1,-⟩
    have HB1:=hide (hb1 hp)
    rw [hp]
    clear hb1
    go_wp2
    go_roundg (xs.length - (k + 1))
    case measure => have:=uh HG; omega
    case rel => exact ⟨k + 1,by omega,rfl,by go_num,uh HB1,uh HA'⟩
  ·have e : k = xs.length:=by omega
   have HT : Hid ((List.range xs.length).all q = true):=by
    refine hide ?_
    rw [List.all_eq_true]
    intro x hx
    exact uh HA x (by have:=List.mem_range.1 hx; omega)
   have HE:=hide (e ▸ uh HBL)
   go_wp2
   go_ret
   exact ⟨ret_bool (uh HT).symm,fun _ => uh HE,fun h => absurd h (by rw [uh HT]; decide)⟩
set_option maxHeartbeats 1000000 in
theorem everyCodeI (pb : Nat) (I : Nat → World → Prop) (J : World → Prop) (q : Nat → Bool) (xs : List (List DItem)) (v : Value) (w : World) (hS : ∀ k wr,I k wr → SlAt 1 24 RItems 0 wr v xs) (hI : ∀ k w1 w2,I k w1 → Below w1.heap.size w1 w2 → I k w2)
  (hf : ∀ k (hk : k < xs.length) cs wr,I k wr → RItems 0 wr cs xs[k] → Calls Tryz.prog 147 #[.pointer (some ⟨pb,0,none⟩),valOfItems cs] wr fun e w' => e = .returned (.bool (q k)) ∧ (q k = true → I (k + 1) w') ∧ (q k = false → J w')) (h0 : I 0 w) :
  Calls Tryz.prog 148 #[v,.func (.func 147) #[.pointer (some ⟨pb,0,none⟩)] #[]] w fun e w' => e = .returned (.bool ((List.range xs.length).all q)) ∧ ((List.range xs.length).all q = true → I xs.length w') ∧ ((List.range xs.length).all q = false → J w'):=by
 obtain ⟨a,cap,rfl⟩:=(hS 0 w h0).shape
 have hn:=(hS 0 w h0).lenI
 have HS:=hide hS
 have HI:=hide hI
 have HFN:=hide hf
 have H0:=hide h0
 clear hS hI hf h0
 go_enter Tryz.func148,Tryz.ntmps148
 go_wp2
 go_loopg [6,9] xs.length (fun g x i wr => ∃ (k : Nat),k ≤ xs.length ∧ g = xs.length - k ∧ i = .int .i64 k ∧ I k wr ∧ ∀ j,j < k → q j = true)
 case atStart => exact ⟨0,Nat.zero_le _,by omega,rfl,uh H0,fun j h => absurd h (Nat.not_lt_zero _)⟩
 case round =>
  obtain ⟨k,hk,hg,rfl,hbl,hall⟩:=hrel
  have HG:=hide hg
  have HA:=hide hall
  have HBL:=hide hbl
  clear hg hall hbl
  by_cases hlt : k < xs.length
  ·obtain ⟨_,_,hv9,_,_,hx9⟩:=uh HS k wr (uh HBL)
   simp only [Value.slice.injEq] at hv9
   obtain ⟨rfl,_,rfl⟩:=hv9
   obtain ⟨b,o,cs,rfl,_,hb,hcs,hc,hR⟩:=hx9 k hlt
   clear hx9
   have hcall:=uh HFN k hlt cs wr (uh HBL) hR
   obtain ⟨vl,rfl,hcl⟩:=hR
   obtain ⟨aa1,ca1,rfl⟩:=hcl.shape
   clear hcl
   have c0:=hc 0 (by simp)
   simp only [Nat.mul_one,Nat.add_zero,List.getElem_cons_zero,List.getElem_cons_succ] at c0
   simp only [valOfItems,List.headD_cons] at hcall
   have HC:=hide hcall
   clear hc hcs hcall
   cases hp : q k
   ·have HF : Hid ((List.range xs.length).all q = false):=by
     refine hide ?_
     rw [List.all_eq_false]
     exact ⟨k,List.mem_range.2 hlt,by rw [hp]; decide⟩
    go_wp2_with fail
    refine (uh HC).mono ?_
    rintro e w1 ⟨rfl,-,hb1⟩
    have HB1:=hide (hb1 hp)
    rw [hp]
    clear hb1
    go_wp2
    go_ret
    exact ⟨ret_bool (uh HF).symm,fun h => absurd h (by rw [uh HF]; decide),fun _ => uh HB1⟩
   ·have A' : ∀ j,j < k + 1 → q j = true:=by
     intro j h1
     by_cases e : j = k
     ·subst e; exact hp
     ·exact uh HA j (by omega)
    have HA':=hide A'
    clear A'
    go_wp2_with fail
    refine (uh HC).mono ?_
    rintro e w1 ⟨rfl,hb1,-⟩
    have HB1:=hide (hb1 hp)
    rw [hp]
    clear hb1
    go_wp2
    go_roundg (xs.length - (k + 1))
    case measure => have:=uh HG; omega
    case rel => exact ⟨k + 1,by omega,rfl,by go_num,uh HB1,uh HA'⟩
  ·have e : k = xs.length:=by omega
   have HT : Hid ((List.range xs.length).all q = true):=by
    refine hide ?_
    rw [List.all_eq_true]
    intro x hx
    exact uh HA x (by have:=List.mem_range.1 hx; omega)
   have HE:=hide (e ▸ uh HBL)
   go_wp2
   go_ret
   exact ⟨ret_bool (uh HT).symm,fun _ => uh HE,fun h => absurd h (by rw [uh HT]; decide)⟩
set_option maxHeartbeats 1000000 in
theorem everyIntI  (I : Nat → World → Prop) (J : World → Prop) (q : Nat → Bool) (xs : List Int) (v : Value) (w : World) (hS : ∀ k wr,I k wr → SlAt 1 8 RInt 0 wr v xs) (hI : ∀ k w1 w2,I k w1 → Below w1.heap.size w1 w2 → I k w2)
  (hf : ∀ k (hk : k < xs.length) cs wr,I k wr → RInt 0 wr cs xs[k] → Calls Tryz.prog 41 #[valOfInt cs] wr fun e w' => e = .returned (.bool (q k)) ∧ (q k = true → I (k + 1) w') ∧ (q k = false → J w')) (h0 : I 0 w) :
  Calls Tryz.prog 40 #[v,.func (.func 41) #[] #[]] w fun e w' => e = .returned (.bool ((List.range xs.length).all q)) ∧ ((List.range xs.length).all q = true → I xs.length w') ∧ ((List.range xs.length).all q = false → J w'):=by
 obtain ⟨a,cap,rfl⟩:=(hS 0 w h0).shape
 have hn:=(hS 0 w h0).lenI
 have HS:=hide hS
 have HI:=hide hI
 have HFN:=hide hf
 have H0:=hide h0
 clear hS hI hf h0
 go_enter Tryz.func40,Tryz.ntmps40
 go_wp2
 go_loopg [6,9] xs.length (fun g x i wr => ∃ (k : Nat),k ≤ xs.length ∧ g = xs.length - k ∧ i = .int .i64 k ∧ I k wr ∧ ∀ j,j < k → q j = true)
 case atStart => exact ⟨0,Nat.zero_le _,by omega,rfl,uh H0,fun j h => absurd h (Nat.not_lt_zero _)⟩
 case round =>
  obtain ⟨k,hk,hg,rfl,hbl,hall⟩:=hrel
  have HG:=hide hg
  have HA:=hide hall
  have HBL:=hide hbl
  clear hg hall hbl
  by_cases hlt : k < xs.length
  ·obtain ⟨_,_,hv9,_,_,hx9⟩:=uh HS k wr (uh HBL)
   simp only [Value.slice.injEq] at hv9
   obtain ⟨rfl,_,rfl⟩:=hv9
   obtain ⟨b,o,cs,rfl,_,hb,hcs,hc,hR⟩:=hx9 k hlt
   clear hx9
   have hcall:=uh HFN k hlt cs wr (uh HBL) hR
   obtain ⟨rfl,hv⟩:=hR
   have c0:=hc 0 (by simp)
   simp only [Nat.mul_one,Nat.add_zero,List.getElem_cons_zero,List.getElem_cons_succ] at c0
   simp only [valOfInt,List.headD_cons] at hcall
   have HC:=hide hcall
   clear hc hcs hcall
   cases hp : q k
   ·have HF : Hid ((List.range xs.length).all q = false):=by
     refine hide ?_
     rw [List.all_eq_false]
     exact ⟨k,List.mem_range.2 hlt,by rw [hp]; decide⟩
    go_wp2_with fail
    refine (uh HC).mono ?_
    rintro e w1 ⟨rfl,-,hb1⟩
    have HB1:=hide (hb1 hp)
    rw [hp]
    clear hb1
    go_wp2
    go_ret
    exact ⟨ret_bool (uh HF).symm,fun h => absurd h (by rw [uh HF]; decide),fun _ => uh HB1⟩
   ·have A' : ∀ j,j < k + 1 → q j = true:=by
     intro j h1
     by_cases e : j = k
     ·subst e; exact hp
     ·exact uh HA j (by omega)
    have HA':=hide A'
    clear A'
    go_wp2_with fail
    refine (uh HC).mono ?_
    rintro e w1 ⟨rfl,hb1,-⟩
    have HB1:=hide (hb1 hp)
    rw [hp]
    clear hb1
    go_wp2
    go_roundg (xs.length - (k + 1))
    case measure => have:=uh HG; omega
    case rel => exact ⟨k + 1,by omega,rfl,by go_num,uh HB1,uh HA'⟩
  ·have e : k = xs.length:=by omega
   have HT : Hid ((List.range xs.length).all q = true):=by
    refine hide ?_
    rw [List.all_eq_true]
    intro x hx
    exact uh HA x (by have:=List.mem_range.1 hx; omega)
   have HE:=hide (e ▸ uh HBL)
   go_wp2
   go_ret
   exact ⟨ret_bool (uh HT).symm,fun _ => uh HE,fun h => absurd h (by rw [uh HT]; decide)⟩
def valB (v : Int) : Bool:=decide (-2147483648 ≤ v ∧ v ≤ 2147483647)
theorem isValue_ok (v : Int) (w : World) : Calls Tryz.prog 41 #[.int .i64 v] w (fun e w' => e = .returned (.bool (valB v)) ∧ w' = w):=by
 by_cases h1 : -2147483648 ≤ v
 ·by_cases h2 : v ≤ 2147483647
  ·have e : valB v = true:=by simp [valB]; omega
   rw [e]
   go_enter Tryz.func41,Tryz.ntmps41
   go_wp2
   go_ret
   exact ⟨rfl,rfl⟩
  ·have e : valB v = false:=by simp [valB]; omega
   rw [e]
   go_enter Tryz.func41,Tryz.ntmps41
   go_wp2
   go_ret
   exact ⟨rfl,rfl⟩
 ·have e : valB v = false:=by simp [valB]; omega
  rw [e]
  go_enter Tryz.func41,Tryz.ntmps41
  go_wp2
  go_ret
  exact ⟨rfl,rfl⟩
def unB (s : DStm) : Bool :=
 (decide (s.kind = 1 ∨ s.kind = 4) || decide (s.name.size = 0)) && (decide (s.kind = 2 ∨ s.kind = 3) || decide (s.at_ = 0)) && (decide (s.kind = 1 ∨ s.kind = 2) || decide (s.code.length = 0)) && (decide (s.kind = 3) || decide (s.outs.length + s.args.length = 0))
theorem below_dn (w : World) (n : Nat) : Below w.heap.size w (w.drewN n):=⟨rfl,rfl,rfl,Nat.le_refl _,fun _ _ => rfl⟩
theorem ret_bl2 {a b : Bool} (h : a = b) : Ending.returned (.bool a) = .returned (.bool b):=by rw [h]
set_option maxHeartbeats 4000000 in
theorem unusedEmpty_1 (nm : ByteArray) (atv : Int) (outs : List ByteArray) (code : List DItem) (args : List (List DItem)) (a1 a2 a3 : Option Addr) (n1 n2 n3 c1 c2 c3 : Nat) (e1 : outs.length = n1) (e2 : code.length = n2) (e3 : args.length = n3) (hl1 : n1 ≤ 140737488355328) (hl3 : n3 ≤ 140737488355328) (b o : Nat) (w : World)
  (q0 : w.cell? ⟨b,o,none⟩ = some (.int .i64 1)) (q1 : w.cell? ⟨b,o + 1,none⟩ = some (.string nm)) (q2 : w.cell? ⟨b,o + 2,none⟩ = some (.int .i64 atv)) (q3 : w.cell? ⟨b,o + 3,none⟩ = some (.slice a1 n1 c1)) (q4 : w.cell? ⟨b,o + 4,none⟩ = some (.slice a2 n2 c2)) (q5 : w.cell? ⟨b,o + 5,none⟩ = some (.slice a3 n3 c3)) :
  Calls Tryz.prog 136 #[.pointer (some ⟨b,o,none⟩)] w (Ans (.bool (unB ⟨1,nm,atv,outs,code,args⟩)) w):=by
 by_cases hA : atv = 0
 ·have g2 : (atv == 0) = true:=by rw [beq_iff_eq]; exact hA
  by_cases hO : n1 + n3 = 0
  ·have g4 : ((n1 : Int) + (n3 : Int) == 0) = true:=by rw [beq_iff_eq]; omega
   have HU : Hid (unB ⟨1,nm,atv,outs,code,args⟩ = true):=by simp [unB,hide,Hid,e1,e2,e3,hA,hO,]; try omega
   clear e1 e2 e3
   try clear hN
   try clear hA
   try clear hC
   try clear hO
   go_enter Tryz.func136,Tryz.ntmps136
   go_wp2_with fail
   go_quiet ((fail))
   go_wp2
   go_ret
   exact ⟨ret_bl2 (uh HU).symm,below_dn _ _⟩
  ·have g4 : ((n1 : Int) + (n3 : Int) == 0) = false:=by rw [beq_eq_false_iff_ne]; omega
   have HU : Hid (unB ⟨1,nm,atv,outs,code,args⟩ = false):=by simp [unB,hide,Hid,e1,e2,e3,hA,hO]; try omega
   clear e1 e2 e3
   try clear hN
   try clear hA
   try clear hC
   try clear hO
   go_enter Tryz.func136,Tryz.ntmps136
   go_wp2_with fail
   go_quiet ((fail))
   go_wp2
   go_ret
   exact ⟨ret_bl2 (uh HU).symm,below_dn _ _⟩
 ·have g2 : (atv == 0) = false:=by rw [beq_eq_false_iff_ne]; exact hA
  have HU : Hid (unB ⟨1,nm,atv,outs,code,args⟩ = false):=by simp [unB,hide,Hid,e1,e2,e3,hA]; try omega
  clear e1 e2 e3
  try clear hN
  try clear hA
  try clear hC
  try clear hO
  go_enter Tryz.func136,Tryz.ntmps136
  go_wp2_with fail
  go_quiet ((fail))
  go_wp2
  go_ret
  exact ⟨ret_bl2 (uh HU).symm,below_dn _ _⟩
set_option maxHeartbeats 4000000 in
theorem unusedEmpty_2 (nm : ByteArray) (atv : Int) (outs : List ByteArray) (code : List DItem) (args : List (List DItem)) (a1 a2 a3 : Option Addr) (n1 n2 n3 c1 c2 c3 : Nat) (e1 : outs.length = n1) (e2 : code.length = n2) (e3 : args.length = n3) (hl1 : n1 ≤ 140737488355328) (hl3 : n3 ≤ 140737488355328) (b o : Nat) (w : World)
  (q0 : w.cell? ⟨b,o,none⟩ = some (.int .i64 2)) (q1 : w.cell? ⟨b,o + 1,none⟩ = some (.string nm)) (q2 : w.cell? ⟨b,o + 2,none⟩ = some (.int .i64 atv)) (q3 : w.cell? ⟨b,o + 3,none⟩ = some (.slice a1 n1 c1)) (q4 : w.cell? ⟨b,o + 4,none⟩ = some (.slice a2 n2 c2)) (q5 : w.cell? ⟨b,o + 5,none⟩ = some (.slice a3 n3 c3)) :
  Calls Tryz.prog 136 #[.pointer (some ⟨b,o,none⟩)] w (Ans (.bool (unB ⟨2,nm,atv,outs,code,args⟩)) w):=by
 by_cases hN : nm.size = 0
 ·have g1:=empty_yes nm hN
  have g1b:=isEmpty_yes nm hN
  by_cases hO : n1 + n3 = 0
  ·have g4 : ((n1 : Int) + (n3 : Int) == 0) = true:=by rw [beq_iff_eq]; omega
   have HU : Hid (unB ⟨2,nm,atv,outs,code,args⟩ = true):=by simp [unB,hide,Hid,e1,e2,e3,hN,hO,]; try omega
   clear e1 e2 e3
   try clear hN
   try clear hA
   try clear hC
   try clear hO
   go_enter Tryz.func136,Tryz.ntmps136
   go_wp2_with fail
   go_quiet ((fail))
   go_wp2
   go_ret
   exact ⟨ret_bl2 (uh HU).symm,below_dn _ _⟩
  ·have g4 : ((n1 : Int) + (n3 : Int) == 0) = false:=by rw [beq_eq_false_iff_ne]; omega
   have HU : Hid (unB ⟨2,nm,atv,outs,code,args⟩ = false):=by simp [unB,hide,Hid,e1,e2,e3,hN,hO]; try omega
   clear e1 e2 e3
   try clear hN
   try clear hA
   try clear hC
   try clear hO
   go_enter Tryz.func136,Tryz.ntmps136
   go_wp2_with fail
   go_quiet ((fail))
   go_wp2
   go_ret
   exact ⟨ret_bl2 (uh HU).symm,below_dn _ _⟩
 ·have g1:=empty_no nm hN
  have g1b:=isEmpty_no nm hN
  have HU : Hid (unB ⟨2,nm,atv,outs,code,args⟩ = false):=by simp [unB,hide,Hid,e1,e2,e3,hN]; try omega
  clear e1 e2 e3
  try clear hN
  try clear hA
  try clear hC
  try clear hO
  go_enter Tryz.func136,Tryz.ntmps136
  go_wp2_with fail
  go_quiet ((fail))
  go_wp2
  go_ret
  exact ⟨ret_bl2 (uh HU).symm,below_dn _ _⟩
set_option maxHeartbeats 4000000 in
theorem unusedEmpty_3 (nm : ByteArray) (atv : Int) (outs : List ByteArray) (code : List DItem) (args : List (List DItem)) (a1 a2 a3 : Option Addr) (n1 n2 n3 c1 c2 c3 : Nat) (e1 : outs.length = n1) (e2 : code.length = n2) (e3 : args.length = n3) (hl1 : n1 ≤ 140737488355328) (hl3 : n3 ≤ 140737488355328) (b o : Nat) (w : World)
  (q0 : w.cell? ⟨b,o,none⟩ = some (.int .i64 3)) (q1 : w.cell? ⟨b,o + 1,none⟩ = some (.string nm)) (q2 : w.cell? ⟨b,o + 2,none⟩ = some (.int .i64 atv)) (q3 : w.cell? ⟨b,o + 3,none⟩ = some (.slice a1 n1 c1)) (q4 : w.cell? ⟨b,o + 4,none⟩ = some (.slice a2 n2 c2)) (q5 : w.cell? ⟨b,o + 5,none⟩ = some (.slice a3 n3 c3)) :
  Calls Tryz.prog 136 #[.pointer (some ⟨b,o,none⟩)] w (Ans (.bool (unB ⟨3,nm,atv,outs,code,args⟩)) w):=by
 by_cases hN : nm.size = 0
 ·have g1:=empty_yes nm hN
  have g1b:=isEmpty_yes nm hN
  by_cases hC : n2 = 0
  ·have g3 : ((n2 : Int) == 0) = true:=by rw [beq_iff_eq]; omega
   have HU : Hid (unB ⟨3,nm,atv,outs,code,args⟩ = true):=by simp [unB,hide,Hid,e1,e2,e3,hN,hC,]; try omega
   clear e1 e2 e3
   try clear hN
   try clear hA
   try clear hC
   try clear hO
   go_enter Tryz.func136,Tryz.ntmps136
   go_wp2_with fail
   go_quiet ((fail))
   go_wp2
   go_ret
   exact ⟨ret_bl2 (uh HU).symm,below_dn _ _⟩
  ·have g3 : ((n2 : Int) == 0) = false:=by rw [beq_eq_false_iff_ne]; omega
   have HU : Hid (unB ⟨3,nm,atv,outs,code,args⟩ = false):=by simp [unB,hide,Hid,e1,e2,e3,hN,hC]; try omega
   clear e1 e2 e3
   try clear hN
   try clear hA
   try clear hC
   try clear hO
   go_enter Tryz.func136,Tryz.ntmps136
   go_wp2_with fail
   go_quiet ((fail))
   go_wp2
   go_ret
   exact ⟨ret_bl2 (uh HU).symm,below_dn _ _⟩
 ·have g1:=empty_no nm hN
  have g1b:=isEmpty_no nm hN
  have HU : Hid (unB ⟨3,nm,atv,outs,code,args⟩ = false):=by simp [unB,hide,Hid,e1,e2,e3,hN]; try omega
  clear e1 e2 e3
  try clear hN
  try clear hA
  try clear hC
  try clear hO
  go_enter Tryz.func136,Tryz.ntmps136
  go_wp2_with fail
  go_quiet ((fail))
  go_wp2
  go_ret
  exact ⟨ret_bl2 (uh HU).symm,below_dn _ _⟩
set_option maxHeartbeats 4000000 in
theorem unusedEmpty_4 (nm : ByteArray) (atv : Int) (outs : List ByteArray) (code : List DItem) (args : List (List DItem)) (a1 a2 a3 : Option Addr) (n1 n2 n3 c1 c2 c3 : Nat) (e1 : outs.length = n1) (e2 : code.length = n2) (e3 : args.length = n3) (hl1 : n1 ≤ 140737488355328) (hl3 : n3 ≤ 140737488355328) (b o : Nat) (w : World)
  (q0 : w.cell? ⟨b,o,none⟩ = some (.int .i64 4)) (q1 : w.cell? ⟨b,o + 1,none⟩ = some (.string nm)) (q2 : w.cell? ⟨b,o + 2,none⟩ = some (.int .i64 atv)) (q3 : w.cell? ⟨b,o + 3,none⟩ = some (.slice a1 n1 c1)) (q4 : w.cell? ⟨b,o + 4,none⟩ = some (.slice a2 n2 c2)) (q5 : w.cell? ⟨b,o + 5,none⟩ = some (.slice a3 n3 c3)) :
  Calls Tryz.prog 136 #[.pointer (some ⟨b,o,none⟩)] w (Ans (.bool (unB ⟨4,nm,atv,outs,code,args⟩)) w):=by
 by_cases hA : atv = 0
 ·have g2 : (atv == 0) = true:=by rw [beq_iff_eq]; exact hA
  by_cases hC : n2 = 0
  ·have g3 : ((n2 : Int) == 0) = true:=by rw [beq_iff_eq]; omega
   by_cases hO : n1 + n3 = 0
   ·have g4 : ((n1 : Int) + (n3 : Int) == 0) = true:=by rw [beq_iff_eq]; omega
    have HU : Hid (unB ⟨4,nm,atv,outs,code,args⟩ = true):=by simp [unB,hide,Hid,e1,e2,e3,hA,hC,hO,]; try omega
    clear e1 e2 e3
    try clear hN
    try clear hA
    try clear hC
    try clear hO
    go_enter Tryz.func136,Tryz.ntmps136
    go_wp2_with fail
    go_quiet ((fail))
    go_wp2
    go_ret
    exact ⟨ret_bl2 (uh HU).symm,below_dn _ _⟩
   ·have g4 : ((n1 : Int) + (n3 : Int) == 0) = false:=by rw [beq_eq_false_iff_ne]; omega
    have HU : Hid (unB ⟨4,nm,atv,outs,code,args⟩ = false):=by simp [unB,hide,Hid,e1,e2,e3,hA,hC,hO]; try omega
    clear e1 e2 e3
    try clear hN
    try clear hA
    try clear hC
    try clear hO
    go_enter Tryz.func136,Tryz.ntmps136
    go_wp2_with fail
    go_quiet ((fail))
    go_wp2
    go_ret
    exact ⟨ret_bl2 (uh HU).symm,below_dn _ _⟩
  ·have g3 : ((n2 : Int) == 0) = false:=by rw [beq_eq_false_iff_ne]; omega
   have HU : Hid (unB ⟨4,nm,atv,outs,code,args⟩ = false):=by simp [unB,hide,Hid,e1,e2,e3,hA,hC]; try omega
   clear e1 e2 e3
   try clear hN
   try clear hA
   try clear hC
   try clear hO
   go_enter Tryz.func136,Tryz.ntmps136
   go_wp2_with fail
   go_quiet ((fail))
   go_wp2
   go_ret
   exact ⟨ret_bl2 (uh HU).symm,below_dn _ _⟩
 ·have g2 : (atv == 0) = false:=by rw [beq_eq_false_iff_ne]; exact hA
  have HU : Hid (unB ⟨4,nm,atv,outs,code,args⟩ = false):=by simp [unB,hide,Hid,e1,e2,e3,hA]; try omega
  clear e1 e2 e3
  try clear hN
  try clear hA
  try clear hC
  try clear hO
  go_enter Tryz.func136,Tryz.ntmps136
  go_wp2_with fail
  go_quiet ((fail))
  go_wp2
  go_ret
  exact ⟨ret_bl2 (uh HU).symm,below_dn _ _⟩
set_option maxHeartbeats 4000000 in
theorem unusedEmpty_0 (kd : Int) (hkd1 : kd ≠ 1) (hkd2 : kd ≠ 2) (hkd3 : kd ≠ 3) (hkd4 : kd ≠ 4) (nm : ByteArray) (atv : Int) (outs : List ByteArray) (code : List DItem) (args : List (List DItem)) (a1 a2 a3 : Option Addr) (n1 n2 n3 c1 c2 c3 : Nat) (e1 : outs.length = n1) (e2 : code.length = n2) (e3 : args.length = n3) (hl1 : n1 ≤ 140737488355328) (hl3 : n3 ≤ 140737488355328) (b o : Nat) (w : World)
  (q0 : w.cell? ⟨b,o,none⟩ = some (.int .i64 kd)) (q1 : w.cell? ⟨b,o + 1,none⟩ = some (.string nm)) (q2 : w.cell? ⟨b,o + 2,none⟩ = some (.int .i64 atv)) (q3 : w.cell? ⟨b,o + 3,none⟩ = some (.slice a1 n1 c1)) (q4 : w.cell? ⟨b,o + 4,none⟩ = some (.slice a2 n2 c2)) (q5 : w.cell? ⟨b,o + 5,none⟩ = some (.slice a3 n3 c3)) :
  Calls Tryz.prog 136 #[.pointer (some ⟨b,o,none⟩)] w (Ans (.bool (unB ⟨kd,nm,atv,outs,code,args⟩)) w):=by
 have k1 : (kd == 1) = false:=by rw [beq_eq_false_iff_ne]; exact hkd1
 have k2 : (kd == 2) = false:=by rw [beq_eq_false_iff_ne]; exact hkd2
 have k3 : (kd == 3) = false:=by rw [beq_eq_false_iff_ne]; exact hkd3
 have k4 : (kd == 4) = false:=by rw [beq_eq_false_iff_ne]; exact hkd4
 by_cases hN : nm.size = 0
 ·have g1:=empty_yes nm hN
  have g1b:=isEmpty_yes nm hN
  by_cases hA : atv = 0
  ·have g2 : (atv == 0) = true:=by rw [beq_iff_eq]; exact hA
   by_cases hC : n2 = 0
   ·have g3 : ((n2 : Int) == 0) = true:=by rw [beq_iff_eq]; omega
    by_cases hO : n1 + n3 = 0
    ·have g4 : ((n1 : Int) + (n3 : Int) == 0) = true:=by rw [beq_iff_eq]; omega
     have HU : Hid (unB ⟨kd,nm,atv,outs,code,args⟩ = true):=by simp [unB,hide,Hid,e1,e2,e3,hN,hA,hC,hO,hkd1,hkd2,hkd3,hkd4]; try omega
     clear e1 e2 e3
     try clear hN
     try clear hA
     try clear hC
     try clear hO
     go_enter Tryz.func136,Tryz.ntmps136
     go_wp2_with fail
     go_quiet ((fail))
     go_wp2
     go_ret
     exact ⟨ret_bl2 (uh HU).symm,below_dn _ _⟩
    ·have g4 : ((n1 : Int) + (n3 : Int) == 0) = false:=by rw [beq_eq_false_iff_ne]; omega
     have HU : Hid (unB ⟨kd,nm,atv,outs,code,args⟩ = false):=by simp [unB,hide,Hid,e1,e2,e3,hN,hA,hC,hkd1,hkd2,hkd3,hkd4,hO]; try omega
     clear e1 e2 e3
     try clear hN
     try clear hA
     try clear hC
     try clear hO
     go_enter Tryz.func136,Tryz.ntmps136
     go_wp2_with fail
     go_quiet ((fail))
     go_wp2
     go_ret
     exact ⟨ret_bl2 (uh HU).symm,below_dn _ _⟩
   ·have g3 : ((n2 : Int) == 0) = false:=by rw [beq_eq_false_iff_ne]; omega
    have HU : Hid (unB ⟨kd,nm,atv,outs,code,args⟩ = false):=by simp [unB,hide,Hid,e1,e2,e3,hN,hA,hkd1,hkd2,hkd3,hkd4,hC]; try omega
    clear e1 e2 e3
    try clear hN
    try clear hA
    try clear hC
    try clear hO
    go_enter Tryz.func136,Tryz.ntmps136
    go_wp2_with fail
    go_quiet ((fail))
    go_wp2
    go_ret
    exact ⟨ret_bl2 (uh HU).symm,below_dn _ _⟩
  ·have g2 : (atv == 0) = false:=by rw [beq_eq_false_iff_ne]; exact hA
   have HU : Hid (unB ⟨kd,nm,atv,outs,code,args⟩ = false):=by simp [unB,hide,Hid,e1,e2,e3,hN,hkd1,hkd2,hkd3,hkd4,hA]; try omega
   clear e1 e2 e3
   try clear hN
   try clear hA
   try clear hC
   try clear hO
   go_enter Tryz.func136,Tryz.ntmps136
   go_wp2_with fail
   go_quiet ((fail))
   go_wp2
   go_ret
   exact ⟨ret_bl2 (uh HU).symm,below_dn _ _⟩
 ·have g1:=empty_no nm hN
  have g1b:=isEmpty_no nm hN
  have HU : Hid (unB ⟨kd,nm,atv,outs,code,args⟩ = false):=by simp [unB,hide,Hid,e1,e2,e3,hkd1,hkd2,hkd3,hkd4,hN]; try omega
  clear e1 e2 e3
  try clear hN
  try clear hA
  try clear hC
  try clear hO
  go_enter Tryz.func136,Tryz.ntmps136
  go_wp2_with fail
  go_quiet ((fail))
  go_wp2
  go_ret
  exact ⟨ret_bl2 (uh HU).symm,below_dn _ _⟩
end Go.Proofs.YtjjldnkhadakcaaGreat
