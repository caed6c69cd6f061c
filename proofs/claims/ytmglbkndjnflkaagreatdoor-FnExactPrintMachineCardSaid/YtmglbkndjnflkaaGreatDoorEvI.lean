import Derived.Test.YtmglbkndjnflkaaGreatDoorEvery
import Derived.Test.YtmglbkndjnflkaaGreatDoorMData
import Derived.Test.YtmglbkndjnflkaaGreatDoorMapF
namespace Go.Proofs.YtmglbkndjnflkaaGreatDoor
open Go.RowKit
set_option linter.unusedSimpArgs false
set_option linter.unusedVariables false

theorem SlAt.lenI {α : Type} {sz byt lo : Nat} {R : Nat → World → List Value → α → Prop} {w : World} {v : Value} {xs : List α} (h : SlAt sz byt R lo w v xs) : xs.length ≤ 140737488355328 := by
  obtain ⟨_, _, _, _, h, _⟩ := h
  exact h
def valOfSlot (cs : List Value) : Value := .agg cs.toArray
def valOfInt (cs : List Value) : Value := cs.headD (.bool false)

set_option maxHeartbeats 1000000 in
theorem everySlotI (pb : Nat) (I : Nat → World → Prop) (J : World → Prop) (q : Nat → Bool) (xs : List DSlot) (v : Value) (w : World) (hS : ∀ k wr, I k wr → SlAt 2 24 RSlot 0 wr v xs) (hI : ∀ k w1 w2, I k w1 → Below w1.heap.size w1 w2 → I k w2)
    (hf : ∀ k (hk : k < xs.length) cs wr, I k wr → RSlot 0 wr cs xs[k] → Calls Tryz.prog 92 #[.pointer (some ⟨pb, 0, none⟩), valOfSlot cs] wr fun e w' => e = .returned (.bool (q k)) ∧ (q k = true → I (k + 1) w') ∧ (q k = false → J w')) (h0 : I 0 w) :
    Calls Tryz.prog 91 #[v, .func (.func 92) #[.pointer (some ⟨pb, 0, none⟩)] #[]] w fun e w' => e = .returned (.bool ((List.range xs.length).all q)) ∧ ((List.range xs.length).all q = true → I xs.length w') ∧ ((List.range xs.length).all q = false → J w') := by
  obtain ⟨a, cap, rfl⟩ := (hS 0 w h0).shape
  have hn := (hS 0 w h0).lenI
  have HS := hide hS
  have HI := hide hI
  have HFN := hide hf
  have H0 := hide h0
  clear hS hI hf h0
  go_enter Tryz.func91, Tryz.ntmps91
  go_wp2
  go_loopg [6, 9] xs.length (fun g x i wr => ∃ (k : Nat), k ≤ xs.length ∧ g = xs.length - k ∧ i = .int .i64 k ∧ I k wr ∧ ∀ j, j < k → q j = true)
  case atStart => exact ⟨0, Nat.zero_le _, by omega, rfl, unhide H0, fun j h => absurd h (Nat.not_lt_zero _)⟩
  case round =>
    obtain ⟨k, hk, hg, rfl, hbl, hall⟩ := hrel
    have HG := hide hg
    have HA := hide hall
    have HBL := hide hbl
    clear hg hall hbl
    by_cases hlt : k < xs.length
    · obtain ⟨_, _, hv9, _, _, hx9⟩ := unhide HS k wr (unhide HBL)
      simp only [Value.slice.injEq] at hv9
      obtain ⟨rfl, _, rfl⟩ := hv9
      obtain ⟨b, o, cs, rfl, _, hb, hcs, hc, hR⟩ := hx9 k hlt
      clear hx9
      have hcall := fun ob => unhide HFN k hlt cs (wr.alloc ob) (unhide HI k wr _ (unhide HBL) ((Below.refl _ _).alloc (Nat.le_refl _) ob)) (RSlot_kept.stays _ _ _ _ _ ((Below.refl _ _).alloc (Nat.le_refl _) ob) hR)
      obtain ⟨rfl, hsn, ht⟩ := hR
      have c0 := hc 0 (by simp)
      have c1 := hc 1 (by simp)
      simp only [Nat.mul_one, Nat.add_zero, List.getElem_cons_zero, List.getElem_cons_succ] at c0 c1
      simp only [valOfSlot, List.headD_cons] at hcall
      have HC := hide hcall
      clear hc hcs hcall
      cases hp : q k
      · have HF : Hid ((List.range xs.length).all q = false) := by
          refine hide ?_
          rw [List.all_eq_false]
          exact ⟨k, List.mem_range.2 hlt, by rw [hp]; decide⟩
        go_wp2_with fail
        refine (unhide HC _).mono ?_
        rintro e w1 ⟨rfl, -, hb1⟩
        have HB1 := hide (hb1 hp)
        rw [hp]
        clear hb1
        go_wp2
        go_ret
        exact ⟨ret_bool (unhide HF).symm, fun h => absurd h (by rw [unhide HF]; decide), fun _ => unhide HB1⟩
      · have A' : ∀ j, j < k + 1 → q j = true := by
          intro j h1
          by_cases e : j = k
          · subst e; exact hp
          · exact unhide HA j (by omega)
        have HA' := hide A'
        clear A'
        go_wp2_with fail
        refine (unhide HC _).mono ?_
        rintro e w1 ⟨rfl, hb1, -⟩
        have HB1 := hide (hb1 hp)
        rw [hp]
        clear hb1
        go_wp2
        go_roundg (xs.length - (k + 1))
        case measure => have := unhide HG; omega
        case rel => exact ⟨k + 1, by omega, rfl, by go_num, unhide HB1, unhide HA'⟩
    · have e : k = xs.length := by omega
      have HT : Hid ((List.range xs.length).all q = true) := by
        refine hide ?_
        rw [List.all_eq_true]
        intro x hx
        exact unhide HA x (by have := List.mem_range.1 hx; omega)
      have HE := hide (e ▸ unhide HBL)
      go_wp2
      go_ret
      exact ⟨ret_bool (unhide HT).symm, fun _ => unhide HE, fun h => absurd h (by rw [unhide HT]; decide)⟩

set_option maxHeartbeats 1000000 in
theorem everyNameI (pb : Nat) (I : Nat → World → Prop) (J : World → Prop) (q : Nat → Bool) (xs : List ByteArray) (v : Value) (w : World) (hS : ∀ k wr, I k wr → SlAt 1 16 RStr 0 wr v xs) (hI : ∀ k w1 w2, I k w1 → Below w1.heap.size w1 w2 → I k w2)
    (hf : ∀ k (hk : k < xs.length) cs wr, I k wr → RStr 0 wr cs xs[k] → Calls Tryz.prog 94 #[.pointer (some ⟨pb, 0, none⟩), valOfStr cs] wr fun e w' => e = .returned (.bool (q k)) ∧ (q k = true → I (k + 1) w') ∧ (q k = false → J w')) (h0 : I 0 w) :
    Calls Tryz.prog 93 #[v, .func (.func 94) #[.pointer (some ⟨pb, 0, none⟩)] #[]] w fun e w' => e = .returned (.bool ((List.range xs.length).all q)) ∧ ((List.range xs.length).all q = true → I xs.length w') ∧ ((List.range xs.length).all q = false → J w') := by
  obtain ⟨a, cap, rfl⟩ := (hS 0 w h0).shape
  have hn := (hS 0 w h0).lenI
  have HS := hide hS
  have HI := hide hI
  have HFN := hide hf
  have H0 := hide h0
  clear hS hI hf h0
  go_enter Tryz.func93, Tryz.ntmps93
  go_wp2
  go_loopg [6, 9] xs.length (fun g x i wr => ∃ (k : Nat), k ≤ xs.length ∧ g = xs.length - k ∧ i = .int .i64 k ∧ I k wr ∧ ∀ j, j < k → q j = true)
  case atStart => exact ⟨0, Nat.zero_le _, by omega, rfl, unhide H0, fun j h => absurd h (Nat.not_lt_zero _)⟩
  case round =>
    obtain ⟨k, hk, hg, rfl, hbl, hall⟩ := hrel
    have HG := hide hg
    have HA := hide hall
    have HBL := hide hbl
    clear hg hall hbl
    by_cases hlt : k < xs.length
    · obtain ⟨_, _, hv9, _, _, hx9⟩ := unhide HS k wr (unhide HBL)
      simp only [Value.slice.injEq] at hv9
      obtain ⟨rfl, _, rfl⟩ := hv9
      obtain ⟨b, o, cs, rfl, _, hb, hcs, hc, hR⟩ := hx9 k hlt
      clear hx9
      have hcall := unhide HFN k hlt cs wr (unhide HBL) hR
      obtain ⟨rfl, hsn⟩ := hR
      have c0 := hc 0 (by simp)
      simp only [Nat.mul_one, Nat.add_zero, List.getElem_cons_zero, List.getElem_cons_succ] at c0
      simp only [valOfStr, List.headD_cons] at hcall
      have HC := hide hcall
      clear hc hcs hcall
      cases hp : q k
      · have HF : Hid ((List.range xs.length).all q = false) := by
          refine hide ?_
          rw [List.all_eq_false]
          exact ⟨k, List.mem_range.2 hlt, by rw [hp]; decide⟩
        go_wp2_with fail
        refine (unhide HC).mono ?_
        rintro e w1 ⟨rfl, -, hb1⟩
        have HB1 := hide (hb1 hp)
        rw [hp]
        clear hb1
        go_wp2
        go_ret
        exact ⟨ret_bool (unhide HF).symm, fun h => absurd h (by rw [unhide HF]; decide), fun _ => unhide HB1⟩
      · have A' : ∀ j, j < k + 1 → q j = true := by
          intro j h1
          by_cases e : j = k
          · subst e; exact hp
          · exact unhide HA j (by omega)
        have HA' := hide A'
        clear A'
        go_wp2_with fail
        refine (unhide HC).mono ?_
        rintro e w1 ⟨rfl, hb1, -⟩
        have HB1 := hide (hb1 hp)
        rw [hp]
        clear hb1
        go_wp2
        go_roundg (xs.length - (k + 1))
        case measure => have := unhide HG; omega
        case rel => exact ⟨k + 1, by omega, rfl, by go_num, unhide HB1, unhide HA'⟩
    · have e : k = xs.length := by omega
      have HT : Hid ((List.range xs.length).all q = true) := by
        refine hide ?_
        rw [List.all_eq_true]
        intro x hx
        exact unhide HA x (by have := List.mem_range.1 hx; omega)
      have HE := hide (e ▸ unhide HBL)
      go_wp2
      go_ret
      exact ⟨ret_bool (unhide HT).symm, fun _ => unhide HE, fun h => absurd h (by rw [unhide HT]; decide)⟩

set_option maxHeartbeats 1000000 in
theorem everyItemI (pb : Nat) (I : Nat → World → Prop) (J : World → Prop) (q : Nat → Bool) (xs : List DItem) (v : Value) (w : World) (hS : ∀ k wr, I k wr → SlAt 3 32 RItem 0 wr v xs) (hI : ∀ k w1 w2, I k w1 → Below w1.heap.size w1 w2 → I k w2)
    (hf : ∀ k (hk : k < xs.length) cs wr, I k wr → RItem 0 wr cs xs[k] → Calls Tryz.prog 142 #[.pointer (some ⟨pb, 0, none⟩), valOfItem cs] wr fun e w' => e = .returned (.bool (q k)) ∧ (q k = true → I (k + 1) w') ∧ (q k = false → J w')) (h0 : I 0 w) :
    Calls Tryz.prog 141 #[v, .func (.func 142) #[.pointer (some ⟨pb, 0, none⟩)] #[]] w fun e w' => e = .returned (.bool ((List.range xs.length).all q)) ∧ ((List.range xs.length).all q = true → I xs.length w') ∧ ((List.range xs.length).all q = false → J w') := by
  obtain ⟨a, cap, rfl⟩ := (hS 0 w h0).shape
  have hn := (hS 0 w h0).lenI
  have HS := hide hS
  have HI := hide hI
  have HFN := hide hf
  have H0 := hide h0
  clear hS hI hf h0
  go_enter Tryz.func141, Tryz.ntmps141
  go_wp2
  go_loopg [6, 9] xs.length (fun g x i wr => ∃ (k : Nat), k ≤ xs.length ∧ g = xs.length - k ∧ i = .int .i64 k ∧ I k wr ∧ ∀ j, j < k → q j = true)
  case atStart => exact ⟨0, Nat.zero_le _, by omega, rfl, unhide H0, fun j h => absurd h (Nat.not_lt_zero _)⟩
  case round =>
    obtain ⟨k, hk, hg, rfl, hbl, hall⟩ := hrel
    have HG := hide hg
    have HA := hide hall
    have HBL := hide hbl
    clear hg hall hbl
    by_cases hlt : k < xs.length
    · obtain ⟨_, _, hv9, _, _, hx9⟩ := unhide HS k wr (unhide HBL)
      simp only [Value.slice.injEq] at hv9
      obtain ⟨rfl, _, rfl⟩ := hv9
      obtain ⟨b, o, cs, rfl, _, hb, hcs, hc, hR⟩ := hx9 k hlt
      clear hx9
      have hcall := fun ob => unhide HFN k hlt cs (wr.alloc ob) (unhide HI k wr _ (unhide HBL) ((Below.refl _ _).alloc (Nat.le_refl _) ob)) (RItem_kept.stays _ _ _ _ _ ((Below.refl _ _).alloc (Nat.le_refl _) ob) hR)
      obtain ⟨rfl, hsn, ho, hv⟩ := hR
      have c0 := hc 0 (by simp)
      have c1 := hc 1 (by simp)
      have c2 := hc 2 (by simp)
      simp only [Nat.mul_one, Nat.add_zero, List.getElem_cons_zero, List.getElem_cons_succ] at c0 c1 c2
      simp only [valOfItem, List.headD_cons] at hcall
      have HC := hide hcall
      clear hc hcs hcall
      cases hp : q k
      · have HF : Hid ((List.range xs.length).all q = false) := by
          refine hide ?_
          rw [List.all_eq_false]
          exact ⟨k, List.mem_range.2 hlt, by rw [hp]; decide⟩
        go_wp2_with fail
        refine (unhide HC _).mono ?_
        rintro e w1 ⟨rfl, -, hb1⟩
        have HB1 := hide (hb1 hp)
        rw [hp]
        clear hb1
        go_wp2
        go_ret
        exact ⟨ret_bool (unhide HF).symm, fun h => absurd h (by rw [unhide HF]; decide), fun _ => unhide HB1⟩
      · have A' : ∀ j, j < k + 1 → q j = true := by
          intro j h1
          by_cases e : j = k
          · subst e; exact hp
          · exact unhide HA j (by omega)
        have HA' := hide A'
        clear A'
        go_wp2_with fail
        refine (unhide HC _).mono ?_
        rintro e w1 ⟨rfl, hb1, -⟩
        have HB1 := hide (hb1 hp)
        rw [hp]
        clear hb1
        go_wp2
        go_roundg (xs.length - (k + 1))
        case measure => have := unhide HG; omega
        case rel => exact ⟨k + 1, by omega, rfl, by go_num, unhide HB1, unhide HA'⟩
    · have e : k = xs.length := by omega
      have HT : Hid ((List.range xs.length).all q = true) := by
        refine hide ?_
        rw [List.all_eq_true]
        intro x hx
        exact unhide HA x (by have := List.mem_range.1 hx; omega)
      have HE := hide (e ▸ unhide HBL)
      go_wp2
      go_ret
      exact ⟨ret_bool (unhide HT).symm, fun _ => unhide HE, fun h => absurd h (by rw [unhide HT]; decide)⟩

set_option maxHeartbeats 1000000 in
theorem everyCodeI (pb : Nat) (I : Nat → World → Prop) (J : World → Prop) (q : Nat → Bool) (xs : List (List DItem)) (v : Value) (w : World) (hS : ∀ k wr, I k wr → SlAt 1 24 RItems 0 wr v xs) (hI : ∀ k w1 w2, I k w1 → Below w1.heap.size w1 w2 → I k w2)
    (hf : ∀ k (hk : k < xs.length) cs wr, I k wr → RItems 0 wr cs xs[k] → Calls Tryz.prog 138 #[.pointer (some ⟨pb, 0, none⟩), valOfItems cs] wr fun e w' => e = .returned (.bool (q k)) ∧ (q k = true → I (k + 1) w') ∧ (q k = false → J w')) (h0 : I 0 w) :
    Calls Tryz.prog 139 #[v, .func (.func 138) #[.pointer (some ⟨pb, 0, none⟩)] #[]] w fun e w' => e = .returned (.bool ((List.range xs.length).all q)) ∧ ((List.range xs.length).all q = true → I xs.length w') ∧ ((List.range xs.length).all q = false → J w') := by
  obtain ⟨a, cap, rfl⟩ := (hS 0 w h0).shape
  have hn := (hS 0 w h0).lenI
  have HS := hide hS
  have HI := hide hI
  have HFN := hide hf
  have H0 := hide h0
  clear hS hI hf h0
  go_enter Tryz.func139, Tryz.ntmps139
  go_wp2
  go_loopg [6, 9] xs.length (fun g x i wr => ∃ (k : Nat), k ≤ xs.length ∧ g = xs.length - k ∧ i = .int .i64 k ∧ I k wr ∧ ∀ j, j < k → q j = true)
  case atStart => exact ⟨0, Nat.zero_le _, by omega, rfl, unhide H0, fun j h => absurd h (Nat.not_lt_zero _)⟩
  case round =>
    obtain ⟨k, hk, hg, rfl, hbl, hall⟩ := hrel
    have HG := hide hg
    have HA := hide hall
    have HBL := hide hbl
    clear hg hall hbl
    by_cases hlt : k < xs.length
    · obtain ⟨_, _, hv9, _, _, hx9⟩ := unhide HS k wr (unhide HBL)
      simp only [Value.slice.injEq] at hv9
      obtain ⟨rfl, _, rfl⟩ := hv9
      obtain ⟨b, o, cs, rfl, _, hb, hcs, hc, hR⟩ := hx9 k hlt
      clear hx9
      have hcall := unhide HFN k hlt cs wr (unhide HBL) hR
      obtain ⟨vl, rfl, hcl⟩ := hR
      obtain ⟨aa1, ca1, rfl⟩ := hcl.shape
      clear hcl
      have c0 := hc 0 (by simp)
      simp only [Nat.mul_one, Nat.add_zero, List.getElem_cons_zero, List.getElem_cons_succ] at c0
      simp only [valOfItems, List.headD_cons] at hcall
      have HC := hide hcall
      clear hc hcs hcall
      cases hp : q k
      · have HF : Hid ((List.range xs.length).all q = false) := by
          refine hide ?_
          rw [List.all_eq_false]
          exact ⟨k, List.mem_range.2 hlt, by rw [hp]; decide⟩
        go_wp2_with fail
        refine (unhide HC).mono ?_
        rintro e w1 ⟨rfl, -, hb1⟩
        have HB1 := hide (hb1 hp)
        rw [hp]
        clear hb1
        go_wp2
        go_ret
        exact ⟨ret_bool (unhide HF).symm, fun h => absurd h (by rw [unhide HF]; decide), fun _ => unhide HB1⟩
      · have A' : ∀ j, j < k + 1 → q j = true := by
          intro j h1
          by_cases e : j = k
          · subst e; exact hp
          · exact unhide HA j (by omega)
        have HA' := hide A'
        clear A'
        go_wp2_with fail
        refine (unhide HC).mono ?_
        rintro e w1 ⟨rfl, hb1, -⟩
        have HB1 := hide (hb1 hp)
        rw [hp]
        clear hb1
        go_wp2
        go_roundg (xs.length - (k + 1))
        case measure => have := unhide HG; omega
        case rel => exact ⟨k + 1, by omega, rfl, by go_num, unhide HB1, unhide HA'⟩
    · have e : k = xs.length := by omega
      have HT : Hid ((List.range xs.length).all q = true) := by
        refine hide ?_
        rw [List.all_eq_true]
        intro x hx
        exact unhide HA x (by have := List.mem_range.1 hx; omega)
      have HE := hide (e ▸ unhide HBL)
      go_wp2
      go_ret
      exact ⟨ret_bool (unhide HT).symm, fun _ => unhide HE, fun h => absurd h (by rw [unhide HT]; decide)⟩

set_option maxHeartbeats 1000000 in
theorem everyIntI  (I : Nat → World → Prop) (J : World → Prop) (q : Nat → Bool) (xs : List Int) (v : Value) (w : World) (hS : ∀ k wr, I k wr → SlAt 1 8 RInt 0 wr v xs) (hI : ∀ k w1 w2, I k w1 → Below w1.heap.size w1 w2 → I k w2)
    (hf : ∀ k (hk : k < xs.length) cs wr, I k wr → RInt 0 wr cs xs[k] → Calls Tryz.prog 96 #[valOfInt cs] wr fun e w' => e = .returned (.bool (q k)) ∧ (q k = true → I (k + 1) w') ∧ (q k = false → J w')) (h0 : I 0 w) :
    Calls Tryz.prog 95 #[v, .func (.func 96) #[] #[]] w fun e w' => e = .returned (.bool ((List.range xs.length).all q)) ∧ ((List.range xs.length).all q = true → I xs.length w') ∧ ((List.range xs.length).all q = false → J w') := by
  obtain ⟨a, cap, rfl⟩ := (hS 0 w h0).shape
  have hn := (hS 0 w h0).lenI
  have HS := hide hS
  have HI := hide hI
  have HFN := hide hf
  have H0 := hide h0
  clear hS hI hf h0
  go_enter Tryz.func95, Tryz.ntmps95
  go_wp2
  go_loopg [6, 9] xs.length (fun g x i wr => ∃ (k : Nat), k ≤ xs.length ∧ g = xs.length - k ∧ i = .int .i64 k ∧ I k wr ∧ ∀ j, j < k → q j = true)
  case atStart => exact ⟨0, Nat.zero_le _, by omega, rfl, unhide H0, fun j h => absurd h (Nat.not_lt_zero _)⟩
  case round =>
    obtain ⟨k, hk, hg, rfl, hbl, hall⟩ := hrel
    have HG := hide hg
    have HA := hide hall
    have HBL := hide hbl
    clear hg hall hbl
    by_cases hlt : k < xs.length
    · obtain ⟨_, _, hv9, _, _, hx9⟩ := unhide HS k wr (unhide HBL)
      simp only [Value.slice.injEq] at hv9
      obtain ⟨rfl, _, rfl⟩ := hv9
      obtain ⟨b, o, cs, rfl, _, hb, hcs, hc, hR⟩ := hx9 k hlt
      clear hx9
      have hcall := unhide HFN k hlt cs wr (unhide HBL) hR
      obtain ⟨rfl, hv⟩ := hR
      have c0 := hc 0 (by simp)
      simp only [Nat.mul_one, Nat.add_zero, List.getElem_cons_zero, List.getElem_cons_succ] at c0
      simp only [valOfInt, List.headD_cons] at hcall
      have HC := hide hcall
      clear hc hcs hcall
      cases hp : q k
      · have HF : Hid ((List.range xs.length).all q = false) := by
          refine hide ?_
          rw [List.all_eq_false]
          exact ⟨k, List.mem_range.2 hlt, by rw [hp]; decide⟩
        go_wp2_with fail
        refine (unhide HC).mono ?_
        rintro e w1 ⟨rfl, -, hb1⟩
        have HB1 := hide (hb1 hp)
        rw [hp]
        clear hb1
        go_wp2
        go_ret
        exact ⟨ret_bool (unhide HF).symm, fun h => absurd h (by rw [unhide HF]; decide), fun _ => unhide HB1⟩
      · have A' : ∀ j, j < k + 1 → q j = true := by
          intro j h1
          by_cases e : j = k
          · subst e; exact hp
          · exact unhide HA j (by omega)
        have HA' := hide A'
        clear A'
        go_wp2_with fail
        refine (unhide HC).mono ?_
        rintro e w1 ⟨rfl, hb1, -⟩
        have HB1 := hide (hb1 hp)
        rw [hp]
        clear hb1
        go_wp2
        go_roundg (xs.length - (k + 1))
        case measure => have := unhide HG; omega
        case rel => exact ⟨k + 1, by omega, rfl, by go_num, unhide HB1, unhide HA'⟩
    · have e : k = xs.length := by omega
      have HT : Hid ((List.range xs.length).all q = true) := by
        refine hide ?_
        rw [List.all_eq_true]
        intro x hx
        exact unhide HA x (by have := List.mem_range.1 hx; omega)
      have HE := hide (e ▸ unhide HBL)
      go_wp2
      go_ret
      exact ⟨ret_bool (unhide HT).symm, fun _ => unhide HE, fun h => absurd h (by rw [unhide HT]; decide)⟩

theorem typeOK_ok (t : Int) (w : World) : Calls Tryz.prog 119 #[.int .i64 t] w (fun e w' => e = .returned (.bool (decide (t = 1 ∨ t = 2))) ∧ w' = w) := by
  by_cases h1 : t = 1
  · subst h1
    go_enter Tryz.func119, Tryz.ntmps119
    go_wp2
    go_ret
    exact ⟨rfl, rfl⟩
  · by_cases h2 : t = 2
    · subst h2
      go_enter Tryz.func119, Tryz.ntmps119
      go_wp2
      go_ret
      exact ⟨rfl, rfl⟩
    · rw [decide_eq_false (fun h => by rcases h with h | h; exact h1 h; exact h2 h)]
      have b1 : (t == 1) = false := by rw [beq_eq_false_iff_ne]; exact h1
      have b2 : (t == 2) = false := by rw [beq_eq_false_iff_ne]; exact h2
      go_enter Tryz.func119, Tryz.ntmps119
      go_wp2
      go_ret
      exact ⟨rfl, rfl⟩

def valB (v : Int) : Bool := decide (-2147483648 ≤ v ∧ v ≤ 2147483647)
theorem isValue_ok (v : Int) (w : World) : Calls Tryz.prog 96 #[.int .i64 v] w (fun e w' => e = .returned (.bool (valB v)) ∧ w' = w) := by
  by_cases h1 : -2147483648 ≤ v
  · by_cases h2 : v ≤ 2147483647
    · have e : valB v = true := by simp [valB]; omega
      rw [e]
      go_enter Tryz.func96, Tryz.ntmps96
      go_wp2
      go_ret
      exact ⟨rfl, rfl⟩
    · have e : valB v = false := by simp [valB]; omega
      rw [e]
      go_enter Tryz.func96, Tryz.ntmps96
      go_wp2
      go_ret
      exact ⟨rfl, rfl⟩
  · have e : valB v = false := by simp [valB]; omega
    rw [e]
    go_enter Tryz.func96, Tryz.ntmps96
    go_wp2
    go_ret
    exact ⟨rfl, rfl⟩

end Go.Proofs.YtmglbkndjnflkaaGreatDoor
