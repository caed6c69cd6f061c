import Derived.Test.YtlgeioedgaajoaaGreatDoorPlain
import Derived.Lib.ConvBytes
namespace Go.Proofs.YtlgeioedgaajoaaGreatDoor
open Go.RowKit
set_option linter.unusedSimpArgs false
set_option linter.unusedVariables false

def RByte (_ : Nat) (_ : World) (cs : List Value) (x : Int) : Prop := cs = [.int .u8 x] ∧ 0 ≤ x ∧ x ≤ 255
theorem RByte_kept : KeptBy RByte := fun _ _ _ _ _ _ h => h
def valOfByte (cs : List Value) : Value := cs.headD (.bool false)
def valOfStr (cs : List Value) : Value := cs.headD (.bool false)
def valOfItems (cs : List Value) : Value := cs.headD (.bool false)
def valOfCond (cs : List Value) : Value := .agg cs.toArray
def valOfItem (cs : List Value) : Value := .agg cs.toArray
def valOfVar (cs : List Value) : Value := .agg cs.toArray
def valOfEq (cs : List Value) : Value := .agg cs.toArray
def valOfNode (cs : List Value) : Value := .agg cs.toArray

set_option maxHeartbeats 400000 in
theorem everyByte_isWordByte_ok (p : Int → Bool) (hf : ∀ (x : Int) cs w, RByte 0 w cs x → Calls Tryz.prog 93 #[valOfByte cs] w (Ans (.bool (p x)) w)) (xs : List Int) (v : Value) (w : World) (hv : SlAt 1 1 RByte 0 w v xs) :
    Calls Tryz.prog 92 #[v, .func (.func 93) #[] #[]] w (Ans (.bool (xs.all p)) w) := by
  obtain ⟨a, cap, rfl, _, hn, hx⟩ := hv
  unfold Len at hn
  have HX := hide hx
  have HFN := hide hf
  clear hx hf
  go_enter Tryz.func92, Tryz.ntmps92
  go_wp2
  go_loopg [6, 9] xs.length (fun g x i wr => ∃ (k : Nat), k ≤ xs.length ∧ g = xs.length - k ∧ i = .int .i64 k ∧ Below w.heap.size w wr ∧ ∀ j (h : j < xs.length), j < k → p xs[j] = true)
  case atStart => exact ⟨0, Nat.zero_le _, by omega, rfl, Below.refl _ _, fun j _ h => absurd h (Nat.not_lt_zero _)⟩
  case round =>
    obtain ⟨k, hk, hg, rfl, hbl, hall⟩ := hrel
    have HG := hide hg
    have HA := hide hall
    clear hg hall
    by_cases hlt : k < xs.length
    · obtain ⟨b, o, cs, rfl, _, hb, hcs, hc, hR⟩ := unhide HX k hlt
      have hR := RByte_kept.stays _ _ _ _ _ hbl hR
      have hc : ∀ j (hj : j < cs.length), wr.cell? ⟨b, o + k * 1 + j, none⟩ = some cs[j] := fun j hj => by rw [hbl.cell (p := ⟨b, _, none⟩) hb]; exact hc j hj
      have hcall := unhide HFN xs[k] cs wr hR
      obtain ⟨rfl, hx0, hx1⟩ := hR
      have c0 := hc 0 (by simp)
      simp only [Nat.mul_one, Nat.add_zero, List.getElem_cons_zero, List.getElem_cons_succ] at c0
      simp only [valOfByte, List.headD_cons] at hcall
      have HC := hide hcall
      clear hc hcs hcall
      cases hp : p xs[k]
      · have F : xs.all p = false := by
          rw [List.all_eq_false]
          exact ⟨xs[k], List.getElem_mem hlt, by rw [hp]; decide⟩
        have HF := hide F
        clear F
        go_wp2_with fail
        refine (unhide HC).mono ?_
        rintro e w1 ⟨rfl, hb1⟩
        rw [hp]
        go_wp2
        go_ret
        exact ⟨ret_bool (unhide HF).symm, hbl.trans (hb1.mono hbl.size)⟩
      · have A' : ∀ j (h : j < xs.length), j < k + 1 → p xs[j] = true := by
          intro j h h1
          by_cases e : j = k
          · subst e; exact hp
          · exact unhide HA j h (by omega)
        have HA' := hide A'
        clear A'
        go_wp2_with fail
        refine (unhide HC).mono ?_
        rintro e w1 ⟨rfl, hb1⟩
        rw [hp]
        go_wp2
        go_roundg (xs.length - (k + 1))
        case measure => have := unhide HG; omega
        case rel => exact ⟨k + 1, by omega, rfl, by go_num, hbl.trans (hb1.mono hbl.size), unhide HA'⟩
    · have e : k = xs.length := by omega
      have T : xs.all p = true := by
        rw [List.all_eq_true]
        intro x hx
        obtain ⟨j, hj, rfl⟩ := List.getElem_of_mem hx
        exact unhide HA j hj (by omega)
      have HT := hide T
      clear T
      go_wp2
      go_ret
      exact ⟨ret_bool (unhide HT).symm, hbl⟩

set_option maxHeartbeats 400000 in
theorem everyByte_isDigit_ok (p : Int → Bool) (hf : ∀ (x : Int) cs w, RByte 0 w cs x → Calls Tryz.prog 95 #[valOfByte cs] w (Ans (.bool (p x)) w)) (xs : List Int) (v : Value) (w : World) (hv : SlAt 1 1 RByte 0 w v xs) :
    Calls Tryz.prog 92 #[v, .func (.func 95) #[] #[]] w (Ans (.bool (xs.all p)) w) := by
  obtain ⟨a, cap, rfl, _, hn, hx⟩ := hv
  unfold Len at hn
  have HX := hide hx
  have HFN := hide hf
  clear hx hf
  go_enter Tryz.func92, Tryz.ntmps92
  go_wp2
  go_loopg [6, 9] xs.length (fun g x i wr => ∃ (k : Nat), k ≤ xs.length ∧ g = xs.length - k ∧ i = .int .i64 k ∧ Below w.heap.size w wr ∧ ∀ j (h : j < xs.length), j < k → p xs[j] = true)
  case atStart => exact ⟨0, Nat.zero_le _, by omega, rfl, Below.refl _ _, fun j _ h => absurd h (Nat.not_lt_zero _)⟩
  case round =>
    obtain ⟨k, hk, hg, rfl, hbl, hall⟩ := hrel
    have HG := hide hg
    have HA := hide hall
    clear hg hall
    by_cases hlt : k < xs.length
    · obtain ⟨b, o, cs, rfl, _, hb, hcs, hc, hR⟩ := unhide HX k hlt
      have hR := RByte_kept.stays _ _ _ _ _ hbl hR
      have hc : ∀ j (hj : j < cs.length), wr.cell? ⟨b, o + k * 1 + j, none⟩ = some cs[j] := fun j hj => by rw [hbl.cell (p := ⟨b, _, none⟩) hb]; exact hc j hj
      have hcall := unhide HFN xs[k] cs wr hR
      obtain ⟨rfl, hx0, hx1⟩ := hR
      have c0 := hc 0 (by simp)
      simp only [Nat.mul_one, Nat.add_zero, List.getElem_cons_zero, List.getElem_cons_succ] at c0
      simp only [valOfByte, List.headD_cons] at hcall
      have HC := hide hcall
      clear hc hcs hcall
      cases hp : p xs[k]
      · have F : xs.all p = false := by
          rw [List.all_eq_false]
          exact ⟨xs[k], List.getElem_mem hlt, by rw [hp]; decide⟩
        have HF := hide F
        clear F
        go_wp2_with fail
        refine (unhide HC).mono ?_
        rintro e w1 ⟨rfl, hb1⟩
        rw [hp]
        go_wp2
        go_ret
        exact ⟨ret_bool (unhide HF).symm, hbl.trans (hb1.mono hbl.size)⟩
      · have A' : ∀ j (h : j < xs.length), j < k + 1 → p xs[j] = true := by
          intro j h h1
          by_cases e : j = k
          · subst e; exact hp
          · exact unhide HA j h (by omega)
        have HA' := hide A'
        clear A'
        go_wp2_with fail
        refine (unhide HC).mono ?_
        rintro e w1 ⟨rfl, hb1⟩
        rw [hp]
        go_wp2
        go_roundg (xs.length - (k + 1))
        case measure => have := unhide HG; omega
        case rel => exact ⟨k + 1, by omega, rfl, by go_num, hbl.trans (hb1.mono hbl.size), unhide HA'⟩
    · have e : k = xs.length := by omega
      have T : xs.all p = true := by
        rw [List.all_eq_true]
        intro x hx
        obtain ⟨j, hj, rfl⟩ := List.getElem_of_mem hx
        exact unhide HA j hj (by omega)
      have HT := hide T
      clear T
      go_wp2
      go_ret
      exact ⟨ret_bool (unhide HT).symm, hbl⟩

set_option maxHeartbeats 400000 in
theorem everyStr_nameOK_ok (p : ByteArray → Bool) (hf : ∀ (x : ByteArray) cs w, RStr 0 w cs x → Calls Tryz.prog 44 #[valOfStr cs] w (Ans (.bool (p x)) w)) (xs : List ByteArray) (v : Value) (w : World) (hv : SlAt 1 16 RStr 0 w v xs) :
    Calls Tryz.prog 71 #[v, .func (.func 44) #[] #[]] w (Ans (.bool (xs.all p)) w) := by
  obtain ⟨a, cap, rfl, _, hn, hx⟩ := hv
  unfold Len at hn
  have HX := hide hx
  have HFN := hide hf
  clear hx hf
  go_enter Tryz.func71, Tryz.ntmps71
  go_wp2
  go_loopg [6, 9] xs.length (fun g x i wr => ∃ (k : Nat), k ≤ xs.length ∧ g = xs.length - k ∧ i = .int .i64 k ∧ Below w.heap.size w wr ∧ ∀ j (h : j < xs.length), j < k → p xs[j] = true)
  case atStart => exact ⟨0, Nat.zero_le _, by omega, rfl, Below.refl _ _, fun j _ h => absurd h (Nat.not_lt_zero _)⟩
  case round =>
    obtain ⟨k, hk, hg, rfl, hbl, hall⟩ := hrel
    have HG := hide hg
    have HA := hide hall
    clear hg hall
    by_cases hlt : k < xs.length
    · obtain ⟨b, o, cs, rfl, _, hb, hcs, hc, hR⟩ := unhide HX k hlt
      have hR := RStr_kept.stays _ _ _ _ _ hbl hR
      have hc : ∀ j (hj : j < cs.length), wr.cell? ⟨b, o + k * 1 + j, none⟩ = some cs[j] := fun j hj => by rw [hbl.cell (p := ⟨b, _, none⟩) hb]; exact hc j hj
      have hcall := unhide HFN xs[k] cs wr hR
      obtain ⟨rfl, hsn⟩ := hR
      have c0 := hc 0 (by simp)
      simp only [Nat.mul_one, Nat.add_zero, List.getElem_cons_zero, List.getElem_cons_succ] at c0
      simp only [valOfStr, List.headD_cons] at hcall
      have HC := hide hcall
      clear hc hcs hcall
      cases hp : p xs[k]
      · have F : xs.all p = false := by
          rw [List.all_eq_false]
          exact ⟨xs[k], List.getElem_mem hlt, by rw [hp]; decide⟩
        have HF := hide F
        clear F
        go_wp2_with fail
        refine (unhide HC).mono ?_
        rintro e w1 ⟨rfl, hb1⟩
        rw [hp]
        go_wp2
        go_ret
        exact ⟨ret_bool (unhide HF).symm, hbl.trans (hb1.mono hbl.size)⟩
      · have A' : ∀ j (h : j < xs.length), j < k + 1 → p xs[j] = true := by
          intro j h h1
          by_cases e : j = k
          · subst e; exact hp
          · exact unhide HA j h (by omega)
        have HA' := hide A'
        clear A'
        go_wp2_with fail
        refine (unhide HC).mono ?_
        rintro e w1 ⟨rfl, hb1⟩
        rw [hp]
        go_wp2
        go_roundg (xs.length - (k + 1))
        case measure => have := unhide HG; omega
        case rel => exact ⟨k + 1, by omega, rfl, by go_num, hbl.trans (hb1.mono hbl.size), unhide HA'⟩
    · have e : k = xs.length := by omega
      have T : xs.all p = true := by
        rw [List.all_eq_true]
        intro x hx
        obtain ⟨j, hj, rfl⟩ := List.getElem_of_mem hx
        exact unhide HA j hj (by omega)
      have HT := hide T
      clear T
      go_wp2
      go_ret
      exact ⟨ret_bool (unhide HT).symm, hbl⟩

set_option maxHeartbeats 400000 in
theorem everyCond_condOK_ok (p : DCond → Bool) (hf : ∀ (x : DCond) cs w, RCond 0 w cs x → Calls Tryz.prog 70 #[valOfCond cs] w (Ans (.bool (p x)) w)) (xs : List DCond) (v : Value) (w : World) (hv : SlAt 2 24 RCond 0 w v xs) :
    Calls Tryz.prog 69 #[v, .func (.func 70) #[] #[]] w (Ans (.bool (xs.all p)) w) := by
  obtain ⟨a, cap, rfl, _, hn, hx⟩ := hv
  unfold Len at hn
  have HX := hide hx
  have HFN := hide hf
  clear hx hf
  go_enter Tryz.func69, Tryz.ntmps69
  go_wp2
  go_loopg [6, 9] xs.length (fun g x i wr => ∃ (k : Nat), k ≤ xs.length ∧ g = xs.length - k ∧ i = .int .i64 k ∧ Below w.heap.size w wr ∧ ∀ j (h : j < xs.length), j < k → p xs[j] = true)
  case atStart => exact ⟨0, Nat.zero_le _, by omega, rfl, Below.refl _ _, fun j _ h => absurd h (Nat.not_lt_zero _)⟩
  case round =>
    obtain ⟨k, hk, hg, rfl, hbl, hall⟩ := hrel
    have HG := hide hg
    have HA := hide hall
    clear hg hall
    by_cases hlt : k < xs.length
    · obtain ⟨b, o, cs, rfl, _, hb, hcs, hc, hR⟩ := unhide HX k hlt
      have hR := RCond_kept.stays _ _ _ _ _ hbl hR
      have hc : ∀ j (hj : j < cs.length), wr.cell? ⟨b, o + k * 2 + j, none⟩ = some cs[j] := fun j hj => by rw [hbl.cell (p := ⟨b, _, none⟩) hb]; exact hc j hj
      have hcall := fun ob => unhide HFN xs[k] cs (wr.alloc ob) (RCond_kept.stays _ _ _ _ _ ((Below.refl _ _).alloc (Nat.le_refl _) ob) hR)
      obtain ⟨rfl, hsn⟩ := hR
      have c0 := hc 0 (by simp)
      have c1 := hc 1 (by simp)
      simp only [Nat.mul_one, Nat.add_zero, List.getElem_cons_zero, List.getElem_cons_succ] at c0 c1
      simp only [valOfCond, List.headD_cons] at hcall
      have HC := hide hcall
      clear hc hcs hcall
      cases hp : p xs[k]
      · have F : xs.all p = false := by
          rw [List.all_eq_false]
          exact ⟨xs[k], List.getElem_mem hlt, by rw [hp]; decide⟩
        have HF := hide F
        clear F
        go_wp2_with fail
        refine (unhide HC _).mono ?_
        rintro e w1 ⟨rfl, hb1⟩
        rw [hp]
        go_wp2
        go_ret
        exact ⟨ret_bool (unhide HF).symm, hbl.trans (((Below.refl _ _).alloc hbl.size _).trans (hb1.mono (Nat.le_trans hbl.size (by simp))))⟩
      · have A' : ∀ j (h : j < xs.length), j < k + 1 → p xs[j] = true := by
          intro j h h1
          by_cases e : j = k
          · subst e; exact hp
          · exact unhide HA j h (by omega)
        have HA' := hide A'
        clear A'
        go_wp2_with fail
        refine (unhide HC _).mono ?_
        rintro e w1 ⟨rfl, hb1⟩
        rw [hp]
        go_wp2
        go_roundg (xs.length - (k + 1))
        case measure => have := unhide HG; omega
        case rel => exact ⟨k + 1, by omega, rfl, by go_num, hbl.trans (((Below.refl _ _).alloc hbl.size _).trans (hb1.mono (Nat.le_trans hbl.size (by simp)))), unhide HA'⟩
    · have e : k = xs.length := by omega
      have T : xs.all p = true := by
        rw [List.all_eq_true]
        intro x hx
        obtain ⟨j, hj, rfl⟩ := List.getElem_of_mem hx
        exact unhide HA j hj (by omega)
      have HT := hide T
      clear T
      go_wp2
      go_ret
      exact ⟨ret_bool (unhide HT).symm, hbl⟩

set_option maxHeartbeats 400000 in
theorem everyItem_itemOK_ok (p : DItem → Bool) (hf : ∀ (x : DItem) cs w, RItem 0 w cs x → Calls Tryz.prog 97 #[valOfItem cs] w (Ans (.bool (p x)) w)) (xs : List DItem) (v : Value) (w : World) (hv : SlAt 3 32 RItem 0 w v xs) :
    Calls Tryz.prog 96 #[v, .func (.func 97) #[] #[]] w (Ans (.bool (xs.all p)) w) := by
  obtain ⟨a, cap, rfl, _, hn, hx⟩ := hv
  unfold Len at hn
  have HX := hide hx
  have HFN := hide hf
  clear hx hf
  go_enter Tryz.func96, Tryz.ntmps96
  go_wp2
  go_loopg [6, 9] xs.length (fun g x i wr => ∃ (k : Nat), k ≤ xs.length ∧ g = xs.length - k ∧ i = .int .i64 k ∧ Below w.heap.size w wr ∧ ∀ j (h : j < xs.length), j < k → p xs[j] = true)
  case atStart => exact ⟨0, Nat.zero_le _, by omega, rfl, Below.refl _ _, fun j _ h => absurd h (Nat.not_lt_zero _)⟩
  case round =>
    obtain ⟨k, hk, hg, rfl, hbl, hall⟩ := hrel
    have HG := hide hg
    have HA := hide hall
    clear hg hall
    by_cases hlt : k < xs.length
    · obtain ⟨b, o, cs, rfl, _, hb, hcs, hc, hR⟩ := unhide HX k hlt
      have hR := RItem_kept.stays _ _ _ _ _ hbl hR
      have hc : ∀ j (hj : j < cs.length), wr.cell? ⟨b, o + k * 3 + j, none⟩ = some cs[j] := fun j hj => by rw [hbl.cell (p := ⟨b, _, none⟩) hb]; exact hc j hj
      have hcall := fun ob => unhide HFN xs[k] cs (wr.alloc ob) (RItem_kept.stays _ _ _ _ _ ((Below.refl _ _).alloc (Nat.le_refl _) ob) hR)
      obtain ⟨rfl, hsn, ho, hv⟩ := hR
      have c0 := hc 0 (by simp)
      have c1 := hc 1 (by simp)
      have c2 := hc 2 (by simp)
      simp only [Nat.mul_one, Nat.add_zero, List.getElem_cons_zero, List.getElem_cons_succ] at c0 c1 c2
      simp only [valOfItem, List.headD_cons] at hcall
      have HC := hide hcall
      clear hc hcs hcall
      cases hp : p xs[k]
      · have F : xs.all p = false := by
          rw [List.all_eq_false]
          exact ⟨xs[k], List.getElem_mem hlt, by rw [hp]; decide⟩
        have HF := hide F
        clear F
        go_wp2_with fail
        refine (unhide HC _).mono ?_
        rintro e w1 ⟨rfl, hb1⟩
        rw [hp]
        go_wp2
        go_ret
        exact ⟨ret_bool (unhide HF).symm, hbl.trans (((Below.refl _ _).alloc hbl.size _).trans (hb1.mono (Nat.le_trans hbl.size (by simp))))⟩
      · have A' : ∀ j (h : j < xs.length), j < k + 1 → p xs[j] = true := by
          intro j h h1
          by_cases e : j = k
          · subst e; exact hp
          · exact unhide HA j h (by omega)
        have HA' := hide A'
        clear A'
        go_wp2_with fail
        refine (unhide HC _).mono ?_
        rintro e w1 ⟨rfl, hb1⟩
        rw [hp]
        go_wp2
        go_roundg (xs.length - (k + 1))
        case measure => have := unhide HG; omega
        case rel => exact ⟨k + 1, by omega, rfl, by go_num, hbl.trans (((Below.refl _ _).alloc hbl.size _).trans (hb1.mono (Nat.le_trans hbl.size (by simp)))), unhide HA'⟩
    · have e : k = xs.length := by omega
      have T : xs.all p = true := by
        rw [List.all_eq_true]
        intro x hx
        obtain ⟨j, hj, rfl⟩ := List.getElem_of_mem hx
        exact unhide HA j hj (by omega)
      have HT := hide T
      clear T
      go_wp2
      go_ret
      exact ⟨ret_bool (unhide HT).symm, hbl⟩

set_option maxHeartbeats 400000 in
theorem everyItems_codeOK_ok (p : (List DItem) → Bool) (hf : ∀ (x : (List DItem)) cs w, RItems 0 w cs x → Calls Tryz.prog 72 #[valOfItems cs] w (Ans (.bool (p x)) w)) (xs : List (List DItem)) (v : Value) (w : World) (hv : SlAt 1 24 RItems 0 w v xs) :
    Calls Tryz.prog 73 #[v, .func (.func 72) #[] #[]] w (Ans (.bool (xs.all p)) w) := by
  obtain ⟨a, cap, rfl, _, hn, hx⟩ := hv
  unfold Len at hn
  have HX := hide hx
  have HFN := hide hf
  clear hx hf
  go_enter Tryz.func73, Tryz.ntmps73
  go_wp2
  go_loopg [6, 9] xs.length (fun g x i wr => ∃ (k : Nat), k ≤ xs.length ∧ g = xs.length - k ∧ i = .int .i64 k ∧ Below w.heap.size w wr ∧ ∀ j (h : j < xs.length), j < k → p xs[j] = true)
  case atStart => exact ⟨0, Nat.zero_le _, by omega, rfl, Below.refl _ _, fun j _ h => absurd h (Nat.not_lt_zero _)⟩
  case round =>
    obtain ⟨k, hk, hg, rfl, hbl, hall⟩ := hrel
    have HG := hide hg
    have HA := hide hall
    clear hg hall
    by_cases hlt : k < xs.length
    · obtain ⟨b, o, cs, rfl, _, hb, hcs, hc, hR⟩ := unhide HX k hlt
      have hR := RItems_kept.stays _ _ _ _ _ hbl hR
      have hc : ∀ j (hj : j < cs.length), wr.cell? ⟨b, o + k * 1 + j, none⟩ = some cs[j] := fun j hj => by rw [hbl.cell (p := ⟨b, _, none⟩) hb]; exact hc j hj
      have hcall := unhide HFN xs[k] cs wr hR
      obtain ⟨vl, rfl, hcl⟩ := hR
      obtain ⟨aa1, ca1, rfl⟩ := hcl.shape
      clear hcl
      have c0 := hc 0 (by simp)
      simp only [Nat.mul_one, Nat.add_zero, List.getElem_cons_zero, List.getElem_cons_succ] at c0
      simp only [valOfItems, List.headD_cons] at hcall
      have HC := hide hcall
      clear hc hcs hcall
      cases hp : p xs[k]
      · have F : xs.all p = false := by
          rw [List.all_eq_false]
          exact ⟨xs[k], List.getElem_mem hlt, by rw [hp]; decide⟩
        have HF := hide F
        clear F
        go_wp2_with fail
        refine (unhide HC).mono ?_
        rintro e w1 ⟨rfl, hb1⟩
        rw [hp]
        go_wp2
        go_ret
        exact ⟨ret_bool (unhide HF).symm, hbl.trans (hb1.mono hbl.size)⟩
      · have A' : ∀ j (h : j < xs.length), j < k + 1 → p xs[j] = true := by
          intro j h h1
          by_cases e : j = k
          · subst e; exact hp
          · exact unhide HA j h (by omega)
        have HA' := hide A'
        clear A'
        go_wp2_with fail
        refine (unhide HC).mono ?_
        rintro e w1 ⟨rfl, hb1⟩
        rw [hp]
        go_wp2
        go_roundg (xs.length - (k + 1))
        case measure => have := unhide HG; omega
        case rel => exact ⟨k + 1, by omega, rfl, by go_num, hbl.trans (hb1.mono hbl.size), unhide HA'⟩
    · have e : k = xs.length := by omega
      have T : xs.all p = true := by
        rw [List.all_eq_true]
        intro x hx
        obtain ⟨j, hj, rfl⟩ := List.getElem_of_mem hx
        exact unhide HA j hj (by omega)
      have HT := hide T
      clear T
      go_wp2
      go_ret
      exact ⟨ret_bool (unhide HT).symm, hbl⟩

end Go.Proofs.YtlgeioedgaajoaaGreatDoor
namespace Go.Proofs.YtlgeioedgaajoaaGreatDoor
open Go.RowKit
set_option linter.unusedSimpArgs false
set_option linter.unusedVariables false

set_option maxHeartbeats 400000 in
theorem everyVar_portOK_ok (p : DVar → Bool) (hf : ∀ (x : DVar) cs w, RVar 0 w cs x → Calls Tryz.prog 46 #[valOfVar cs] w (Ans (.bool (p x)) w)) (xs : List DVar) (v : Value) (w : World) (hv : SlAt 3 48 RVar 0 w v xs) :
    Calls Tryz.prog 45 #[v, .func (.func 46) #[] #[]] w (Ans (.bool (xs.all p)) w) := by
  obtain ⟨a, cap, rfl, _, hn, hx⟩ := hv
  unfold Len at hn
  have HX := hide hx
  have HFN := hide hf
  clear hx hf
  go_enter Tryz.func45, Tryz.ntmps45
  go_wp2
  go_loopg [6, 9] xs.length (fun g x i wr => ∃ (k : Nat), k ≤ xs.length ∧ g = xs.length - k ∧ i = .int .i64 k ∧ Below w.heap.size w wr ∧ ∀ j (h : j < xs.length), j < k → p xs[j] = true)
  case atStart => exact ⟨0, Nat.zero_le _, by omega, rfl, Below.refl _ _, fun j _ h => absurd h (Nat.not_lt_zero _)⟩
  case round =>
    obtain ⟨k, hk, hg, rfl, hbl, hall⟩ := hrel
    have HG := hide hg
    have HA := hide hall
    clear hg hall
    by_cases hlt : k < xs.length
    · obtain ⟨b, o, cs, rfl, _, hb, hcs, hc, hR⟩ := unhide HX k hlt
      have hR := RVar_kept.stays _ _ _ _ _ hbl hR
      have hc : ∀ j (hj : j < cs.length), wr.cell? ⟨b, o + k * 3 + j, none⟩ = some cs[j] := fun j hj => by rw [hbl.cell (p := ⟨b, _, none⟩) hb]; exact hc j hj
      have hcall := fun ob => unhide HFN xs[k] cs (wr.alloc ob) (RVar_kept.stays _ _ _ _ _ ((Below.refl _ _).alloc (Nat.le_refl _) ob) hR)
      obtain ⟨cl, rfl, hsn, hty, g1⟩ := hR
      obtain ⟨aa1, ca1, rfl⟩ := g1.shape
      clear g1
      have c0 := hc 0 (by simp)
      have c1 := hc 1 (by simp)
      have c2 := hc 2 (by simp)
      simp only [Nat.mul_one, Nat.add_zero, List.getElem_cons_zero, List.getElem_cons_succ] at c0 c1 c2
      simp only [valOfVar, List.headD_cons] at hcall
      have HC := hide hcall
      clear hc hcs hcall
      cases hp : p xs[k]
      · have F : xs.all p = false := by
          rw [List.all_eq_false]
          exact ⟨xs[k], List.getElem_mem hlt, by rw [hp]; decide⟩
        have HF := hide F
        clear F
        go_wp2_with fail
        refine (unhide HC _).mono ?_
        rintro e w1 ⟨rfl, hb1⟩
        rw [hp]
        go_wp2
        go_ret
        exact ⟨ret_bool (unhide HF).symm, hbl.trans (((Below.refl _ _).alloc hbl.size _).trans (hb1.mono (Nat.le_trans hbl.size (by simp))))⟩
      · have A' : ∀ j (h : j < xs.length), j < k + 1 → p xs[j] = true := by
          intro j h h1
          by_cases e : j = k
          · subst e; exact hp
          · exact unhide HA j h (by omega)
        have HA' := hide A'
        clear A'
        go_wp2_with fail
        refine (unhide HC _).mono ?_
        rintro e w1 ⟨rfl, hb1⟩
        rw [hp]
        go_wp2
        go_roundg (xs.length - (k + 1))
        case measure => have := unhide HG; omega
        case rel => exact ⟨k + 1, by omega, rfl, by go_num, hbl.trans (((Below.refl _ _).alloc hbl.size _).trans (hb1.mono (Nat.le_trans hbl.size (by simp)))), unhide HA'⟩
    · have e : k = xs.length := by omega
      have T : xs.all p = true := by
        rw [List.all_eq_true]
        intro x hx
        obtain ⟨j, hj, rfl⟩ := List.getElem_of_mem hx
        exact unhide HA j hj (by omega)
      have HT := hide T
      clear T
      go_wp2
      go_ret
      exact ⟨ret_bool (unhide HT).symm, hbl⟩

set_option maxHeartbeats 400000 in
theorem everyVar_varOK_ok (p : DVar → Bool) (hf : ∀ (x : DVar) cs w, RVar 0 w cs x → Calls Tryz.prog 47 #[valOfVar cs] w (Ans (.bool (p x)) w)) (xs : List DVar) (v : Value) (w : World) (hv : SlAt 3 48 RVar 0 w v xs) :
    Calls Tryz.prog 45 #[v, .func (.func 47) #[] #[]] w (Ans (.bool (xs.all p)) w) := by
  obtain ⟨a, cap, rfl, _, hn, hx⟩ := hv
  unfold Len at hn
  have HX := hide hx
  have HFN := hide hf
  clear hx hf
  go_enter Tryz.func45, Tryz.ntmps45
  go_wp2
  go_loopg [6, 9] xs.length (fun g x i wr => ∃ (k : Nat), k ≤ xs.length ∧ g = xs.length - k ∧ i = .int .i64 k ∧ Below w.heap.size w wr ∧ ∀ j (h : j < xs.length), j < k → p xs[j] = true)
  case atStart => exact ⟨0, Nat.zero_le _, by omega, rfl, Below.refl _ _, fun j _ h => absurd h (Nat.not_lt_zero _)⟩
  case round =>
    obtain ⟨k, hk, hg, rfl, hbl, hall⟩ := hrel
    have HG := hide hg
    have HA := hide hall
    clear hg hall
    by_cases hlt : k < xs.length
    · obtain ⟨b, o, cs, rfl, _, hb, hcs, hc, hR⟩ := unhide HX k hlt
      have hR := RVar_kept.stays _ _ _ _ _ hbl hR
      have hc : ∀ j (hj : j < cs.length), wr.cell? ⟨b, o + k * 3 + j, none⟩ = some cs[j] := fun j hj => by rw [hbl.cell (p := ⟨b, _, none⟩) hb]; exact hc j hj
      have hcall := fun ob => unhide HFN xs[k] cs (wr.alloc ob) (RVar_kept.stays _ _ _ _ _ ((Below.refl _ _).alloc (Nat.le_refl _) ob) hR)
      obtain ⟨cl, rfl, hsn, hty, g1⟩ := hR
      obtain ⟨aa1, ca1, rfl⟩ := g1.shape
      clear g1
      have c0 := hc 0 (by simp)
      have c1 := hc 1 (by simp)
      have c2 := hc 2 (by simp)
      simp only [Nat.mul_one, Nat.add_zero, List.getElem_cons_zero, List.getElem_cons_succ] at c0 c1 c2
      simp only [valOfVar, List.headD_cons] at hcall
      have HC := hide hcall
      clear hc hcs hcall
      cases hp : p xs[k]
      · have F : xs.all p = false := by
          rw [List.all_eq_false]
          exact ⟨xs[k], List.getElem_mem hlt, by rw [hp]; decide⟩
        have HF := hide F
        clear F
        go_wp2_with fail
        refine (unhide HC _).mono ?_
        rintro e w1 ⟨rfl, hb1⟩
        rw [hp]
        go_wp2
        go_ret
        exact ⟨ret_bool (unhide HF).symm, hbl.trans (((Below.refl _ _).alloc hbl.size _).trans (hb1.mono (Nat.le_trans hbl.size (by simp))))⟩
      · have A' : ∀ j (h : j < xs.length), j < k + 1 → p xs[j] = true := by
          intro j h h1
          by_cases e : j = k
          · subst e; exact hp
          · exact unhide HA j h (by omega)
        have HA' := hide A'
        clear A'
        go_wp2_with fail
        refine (unhide HC _).mono ?_
        rintro e w1 ⟨rfl, hb1⟩
        rw [hp]
        go_wp2
        go_roundg (xs.length - (k + 1))
        case measure => have := unhide HG; omega
        case rel => exact ⟨k + 1, by omega, rfl, by go_num, hbl.trans (((Below.refl _ _).alloc hbl.size _).trans (hb1.mono (Nat.le_trans hbl.size (by simp)))), unhide HA'⟩
    · have e : k = xs.length := by omega
      have T : xs.all p = true := by
        rw [List.all_eq_true]
        intro x hx
        obtain ⟨j, hj, rfl⟩ := List.getElem_of_mem hx
        exact unhide HA j hj (by omega)
      have HT := hide T
      clear T
      go_wp2
      go_ret
      exact ⟨ret_bool (unhide HT).symm, hbl⟩

set_option maxHeartbeats 400000 in
theorem everyEq_equationOK_ok (p : DEq → Bool) (hf : ∀ (x : DEq) cs w, REq 0 w cs x → Calls Tryz.prog 49 #[valOfEq cs] w (Ans (.bool (p x)) w)) (xs : List DEq) (v : Value) (w : World) (hv : SlAt 4 88 REq 0 w v xs) :
    Calls Tryz.prog 48 #[v, .func (.func 49) #[] #[]] w (Ans (.bool (xs.all p)) w) := by
  obtain ⟨a, cap, rfl, _, hn, hx⟩ := hv
  unfold Len at hn
  have HX := hide hx
  have HFN := hide hf
  clear hx hf
  go_enter Tryz.func48, Tryz.ntmps48
  go_wp2
  go_loopg [6, 9] xs.length (fun g x i wr => ∃ (k : Nat), k ≤ xs.length ∧ g = xs.length - k ∧ i = .int .i64 k ∧ Below w.heap.size w wr ∧ ∀ j (h : j < xs.length), j < k → p xs[j] = true)
  case atStart => exact ⟨0, Nat.zero_le _, by omega, rfl, Below.refl _ _, fun j _ h => absurd h (Nat.not_lt_zero _)⟩
  case round =>
    obtain ⟨k, hk, hg, rfl, hbl, hall⟩ := hrel
    have HG := hide hg
    have HA := hide hall
    clear hg hall
    by_cases hlt : k < xs.length
    · obtain ⟨b, o, cs, rfl, _, hb, hcs, hc, hR⟩ := unhide HX k hlt
      have hR := REq_kept.stays _ _ _ _ _ hbl hR
      have hc : ∀ j (hj : j < cs.length), wr.cell? ⟨b, o + k * 4 + j, none⟩ = some cs[j] := fun j hj => by rw [hbl.cell (p := ⟨b, _, none⟩) hb]; exact hc j hj
      have hcall := fun ob => unhide HFN xs[k] cs (wr.alloc ob) (REq_kept.stays _ _ _ _ _ ((Below.refl _ _).alloc (Nat.le_refl _) ob) hR)
      obtain ⟨l, c, aa, rfl, hsn, g1, g2, g3⟩ := hR
      obtain ⟨aa1, ca1, rfl⟩ := g1.shape
      clear g1
      obtain ⟨aa2, ca2, rfl⟩ := g2.shape
      clear g2
      obtain ⟨aa3, ca3, rfl⟩ := g3.shape
      clear g3
      have c0 := hc 0 (by simp)
      have c1 := hc 1 (by simp)
      have c2 := hc 2 (by simp)
      have c3 := hc 3 (by simp)
      simp only [Nat.mul_one, Nat.add_zero, List.getElem_cons_zero, List.getElem_cons_succ] at c0 c1 c2 c3
      simp only [valOfEq, List.headD_cons] at hcall
      have HC := hide hcall
      clear hc hcs hcall
      cases hp : p xs[k]
      · have F : xs.all p = false := by
          rw [List.all_eq_false]
          exact ⟨xs[k], List.getElem_mem hlt, by rw [hp]; decide⟩
        have HF := hide F
        clear F
        go_wp2_with fail
        refine (unhide HC _).mono ?_
        rintro e w1 ⟨rfl, hb1⟩
        rw [hp]
        go_wp2
        go_ret
        exact ⟨ret_bool (unhide HF).symm, hbl.trans (((Below.refl _ _).alloc hbl.size _).trans (hb1.mono (Nat.le_trans hbl.size (by simp))))⟩
      · have A' : ∀ j (h : j < xs.length), j < k + 1 → p xs[j] = true := by
          intro j h h1
          by_cases e : j = k
          · subst e; exact hp
          · exact unhide HA j h (by omega)
        have HA' := hide A'
        clear A'
        go_wp2_with fail
        refine (unhide HC _).mono ?_
        rintro e w1 ⟨rfl, hb1⟩
        rw [hp]
        go_wp2
        go_roundg (xs.length - (k + 1))
        case measure => have := unhide HG; omega
        case rel => exact ⟨k + 1, by omega, rfl, by go_num, hbl.trans (((Below.refl _ _).alloc hbl.size _).trans (hb1.mono (Nat.le_trans hbl.size (by simp)))), unhide HA'⟩
    · have e : k = xs.length := by omega
      have T : xs.all p = true := by
        rw [List.all_eq_true]
        intro x hx
        obtain ⟨j, hj, rfl⟩ := List.getElem_of_mem hx
        exact unhide HA j hj (by omega)
      have HT := hide T
      clear T
      go_wp2
      go_ret
      exact ⟨ret_bool (unhide HT).symm, hbl⟩

set_option maxHeartbeats 400000 in
theorem everyNode_nodeOK_ok (p : DNode → Bool) (hf : ∀ (x : DNode) cs w, RNode 0 w cs x → Calls Tryz.prog 30 #[valOfNode cs] w (Ans (.bool (p x)) w)) (xs : List DNode) (v : Value) (w : World) (hv : SlAt 5 112 RNode 0 w v xs) :
    Calls Tryz.prog 29 #[v, .func (.func 30) #[] #[]] w (Ans (.bool (xs.all p)) w) := by
  obtain ⟨a, cap, rfl, _, hn, hx⟩ := hv
  unfold Len at hn
  have HX := hide hx
  have HFN := hide hf
  clear hx hf
  go_enter Tryz.func29, Tryz.ntmps29
  go_wp2
  go_loopg [6, 9] xs.length (fun g x i wr => ∃ (k : Nat), k ≤ xs.length ∧ g = xs.length - k ∧ i = .int .i64 k ∧ Below w.heap.size w wr ∧ ∀ j (h : j < xs.length), j < k → p xs[j] = true)
  case atStart => exact ⟨0, Nat.zero_le _, by omega, rfl, Below.refl _ _, fun j _ h => absurd h (Nat.not_lt_zero _)⟩
  case round =>
    obtain ⟨k, hk, hg, rfl, hbl, hall⟩ := hrel
    have HG := hide hg
    have HA := hide hall
    clear hg hall
    by_cases hlt : k < xs.length
    · obtain ⟨b, o, cs, rfl, _, hb, hcs, hc, hR⟩ := unhide HX k hlt
      have hR := RNode_kept.stays _ _ _ _ _ hbl hR
      have hc : ∀ j (hj : j < cs.length), wr.cell? ⟨b, o + k * 5 + j, none⟩ = some cs[j] := fun j hj => by rw [hbl.cell (p := ⟨b, _, none⟩) hb]; exact hc j hj
      have hcall := fun ob => unhide HFN xs[k] cs (wr.alloc ob) (RNode_kept.stays _ _ _ _ _ ((Below.refl _ _).alloc (Nat.le_refl _) ob) hR)
      obtain ⟨ni, no, nv, ne, rfl, hsn, g1, g2, g3, g4⟩ := hR
      obtain ⟨aa1, ca1, rfl⟩ := g1.shape
      clear g1
      obtain ⟨aa2, ca2, rfl⟩ := g2.shape
      clear g2
      obtain ⟨aa3, ca3, rfl⟩ := g3.shape
      clear g3
      obtain ⟨aa4, ca4, rfl⟩ := g4.shape
      clear g4
      have c0 := hc 0 (by simp)
      have c1 := hc 1 (by simp)
      have c2 := hc 2 (by simp)
      have c3 := hc 3 (by simp)
      have c4 := hc 4 (by simp)
      simp only [Nat.mul_one, Nat.add_zero, List.getElem_cons_zero, List.getElem_cons_succ] at c0 c1 c2 c3 c4
      simp only [valOfNode, List.headD_cons] at hcall
      have HC := hide hcall
      clear hc hcs hcall
      cases hp : p xs[k]
      · have F : xs.all p = false := by
          rw [List.all_eq_false]
          exact ⟨xs[k], List.getElem_mem hlt, by rw [hp]; decide⟩
        have HF := hide F
        clear F
        go_wp2_with fail
        refine (unhide HC _).mono ?_
        rintro e w1 ⟨rfl, hb1⟩
        rw [hp]
        go_wp2
        go_ret
        exact ⟨ret_bool (unhide HF).symm, hbl.trans (((Below.refl _ _).alloc hbl.size _).trans (hb1.mono (Nat.le_trans hbl.size (by simp))))⟩
      · have A' : ∀ j (h : j < xs.length), j < k + 1 → p xs[j] = true := by
          intro j h h1
          by_cases e : j = k
          · subst e; exact hp
          · exact unhide HA j h (by omega)
        have HA' := hide A'
        clear A'
        go_wp2_with fail
        refine (unhide HC _).mono ?_
        rintro e w1 ⟨rfl, hb1⟩
        rw [hp]
        go_wp2
        go_roundg (xs.length - (k + 1))
        case measure => have := unhide HG; omega
        case rel => exact ⟨k + 1, by omega, rfl, by go_num, hbl.trans (((Below.refl _ _).alloc hbl.size _).trans (hb1.mono (Nat.le_trans hbl.size (by simp)))), unhide HA'⟩
    · have e : k = xs.length := by omega
      have T : xs.all p = true := by
        rw [List.all_eq_true]
        intro x hx
        obtain ⟨j, hj, rfl⟩ := List.getElem_of_mem hx
        exact unhide HA j hj (by omega)
      have HT := hide T
      clear T
      go_wp2
      go_ret
      exact ⟨ret_bool (unhide HT).symm, hbl⟩

end Go.Proofs.YtlgeioedgaajoaaGreatDoor
