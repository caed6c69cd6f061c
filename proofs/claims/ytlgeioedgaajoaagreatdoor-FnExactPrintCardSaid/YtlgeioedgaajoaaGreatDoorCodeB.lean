import Derived.Test.YtlgeioedgaajoaaGreatDoorCode
namespace Go.Proofs.YtlgeioedgaajoaaGreatDoor
open Go.RowKit
set_option linter.unusedSimpArgs false
set_option linter.unusedVariables false

def cdB (code : List DItem) : Bool := decide (code.length ≤ 3000) && code.all itB && wk code 0
def scB (code : List DItem) : Bool := decide (1 ≤ code.length ∧ code.length ≤ 3000) && bgI code == 0 && code.all sItB
def scM (most : Int) (code : List DItem) : Bool := decide (1 ≤ code.length ∧ (code.length : Int) ≤ most) && bgI code == 0 && code.all sItB
theorem scM_3000 (code : List DItem) : scM 3000 code = scB code := by
  unfold scM scB
  have : decide (1 ≤ code.length ∧ (code.length : Int) ≤ 3000) = decide (1 ≤ code.length ∧ code.length ≤ 3000) := by rw [decide_eq_decide]; omega
  rw [this]

theorem hItem (x : DItem) (cs : List Value) (w : World) (h : RItem 0 w cs x) : Calls Tryz.prog 97 #[valOfItem cs] w (Ans (.bool (itB x)) w) := by
  obtain ⟨rfl, h0, _, _⟩ := h
  exact itemOK_ok x w h0

set_option maxHeartbeats 400000 in
theorem codeOK_ok (xs : List DItem) (v : Value) (w : World) (hv : SlAt 3 32 RItem 0 w v xs) :
    Calls Tryz.prog 72 #[v] w (Ans (.bool (cdB xs)) w) := by
  have HV := hide hv
  obtain ⟨a, cap, rfl, _, hn, hx⟩ := hv
  clear hx
  unfold Len at hn
  by_cases h1 : xs.length ≤ 3000
  · have d1 : decide ((xs.length : Int) ≤ 3000) = true := by simp; omega
    cases ha : xs.all itB
    · have e : cdB xs = false := by simp only [cdB, ha]; simp
      rw [e]
      clear e
      have HA := hide ha
      clear ha
      go_enter Tryz.func72, Tryz.ntmps72
      go_wp2_with fail
      refine (everyItem_itemOK_ok itB hItem xs _ _ (unhide HV)).mono ?_
      rintro e w1 ⟨rfl, hb⟩
      rw [unhide HA]
      go_wp2
      go_ret
      exact ⟨rfl, hb⟩
    · have e : cdB xs = wk xs 0 := by simp only [cdB, ha]; simp; omega
      rw [e]
      clear e
      have HA := hide ha
      clear ha
      go_enter Tryz.func72, Tryz.ntmps72
      go_wp2_with fail
      refine (everyItem_itemOK_ok itB hItem xs _ _ (unhide HV)).mono ?_
      rintro e w1 ⟨rfl, hb⟩
      rw [unhide HA]
      go_wp2_with fail
      refine (worksOut_ok xs _ _ ((unhide HV).stays RItem_kept hb)).mono ?_
      rintro e w2 ⟨rfl, hb2⟩
      go_wp2
      go_ret
      exact ⟨rfl, hb.trans (hb2.mono hb.size)⟩
  · have d1 : decide ((xs.length : Int) ≤ 3000) = false := by simp; omega
    have e : cdB xs = false := by simp [cdB]; intro; omega
    rw [e]
    clear e
    go_enter Tryz.func72, Tryz.ntmps72
    go_wp2
    go_ret
    exact ⟨rfl, Below.refl _ _⟩

set_option maxHeartbeats 400000 in
theorem l1CodeOK_any (most : Int) (xs : List DItem) (v : Value) (w : World) (hv : SlAt 3 32 RItem 0 w v xs) :
    Calls Tryz.prog 39 #[v, .int .i64 most] w (Ans (.bool (scM most xs)) w) := by
  have HV := hide hv
  obtain ⟨a, cap, rfl, _, hn, hx⟩ := hv
  have HX := hide hx
  clear hx
  unfold Len at hn
  by_cases h1 : xs.length < 1
  · have d1 : decide ((xs.length : Int) < 1) = true := by simp; omega
    have e : scM most xs = false := by
      have : decide (1 ≤ xs.length ∧ (xs.length : Int) ≤ most) = false := by rw [decide_eq_false_iff_not]; omega
      simp only [scM, this, Bool.false_and]
    rw [e]
    clear e
    go_enter Tryz.func39, Tryz.ntmps39
    go_wp2
    go_ret
    exact ⟨rfl, Below.refl _ _⟩
  have d1 : decide ((xs.length : Int) < 1) = false := by simp; omega
  by_cases h2 : most < (xs.length : Int)
  · have d2 : decide (most < (xs.length : Int)) = true := by simp; omega
    have e : scM most xs = false := by
      have : decide (1 ≤ xs.length ∧ (xs.length : Int) ≤ most) = false := by rw [decide_eq_false_iff_not]; omega
      simp only [scM, this, Bool.false_and]
    rw [e]
    clear e
    go_enter Tryz.func39, Tryz.ntmps39
    go_wp2
    go_ret
    exact ⟨rfl, Below.refl _ _⟩
  have d2 : decide (most < (xs.length : Int)) = false := by simp; omega
  have hlen : decide (1 ≤ xs.length ∧ (xs.length : Int) ≤ most) = true := by simp; omega
  cases h3 : (bgI xs == 0)
  · have e : scM most xs = false := by simp only [scM, h3]; simp
    rw [e]
    clear e
    have d3 : (bgI xs != 0) = true := by rw [bne, h3]; rfl
    have HBG := hide (l1Begin_ok xs _ w (unhide HV))
    generalize bgI xs = bg at *
    clear hlen
    go_enter Tryz.func39, Tryz.ntmps39
    go_wp2_with fail
    refine (unhide HBG).mono ?_
    rintro e w1 ⟨rfl, rfl⟩
    go_wp2
    go_ret
    exact ⟨rfl, Below.refl _ _⟩
  · have e : scM most xs = xs.all sItB := by simp only [scM, h3, hlen]; simp
    rw [e]
    clear e
    have d3 : (bgI xs != 0) = false := by rw [bne, h3]; rfl
    have HBG := hide (l1Begin_ok xs _ w (unhide HV))
    generalize bgI xs = bg at *
    clear hlen
    go_enter Tryz.func39, Tryz.ntmps39
    go_wp2_with fail
    refine (unhide HBG).mono ?_
    rintro e w ⟨rfl, rfl⟩
    go_wp2
    go_loopg [25] xs.length (fun g i wr => ∃ (k : Nat), k ≤ xs.length ∧ g = xs.length - k ∧ i = .int .i64 k ∧ Below w.heap.size w wr ∧ ∀ j (h : j < xs.length), j < k → sItB xs[j] = true)
    case atStart => exact ⟨0, Nat.zero_le _, by omega, rfl, Below.refl _ _, fun j _ h => absurd h (Nat.not_lt_zero _)⟩
    case round =>
      obtain ⟨k, hk, hg, rfl, hbl, hall⟩ := hrel
      have HG := hide hg
      have HA := hide hall
      clear hg hall
      by_cases hlt : k < xs.length
      · obtain ⟨b, o, cs, rfl, _, hb, hcs, hc, hR⟩ := unhide HX k hlt
        have hc : ∀ j (hj : j < cs.length), wr.cell? ⟨b, o + k * 3 + j, none⟩ = some cs[j] := fun j hj => by rw [hbl.cell (p := ⟨b, _, none⟩) hb]; exact hc j hj
        obtain ⟨rfl, hsn, ho, hvl⟩ := hR
        have c0 := hc 0 (by simp)
        have c1 := hc 1 (by simp)
        have c2 := hc 2 (by simp)
        simp only [Nat.mul_one, Nat.add_zero, List.getElem_cons_zero, List.getElem_cons_succ] at c0 c1 c2
        have HC := hide (fun w => l1ItemOK_ok xs[k] w hsn)
        clear hc hcs hsn ho hvl
        cases hp : sItB xs[k]
        · have F : xs.all sItB = false := by
            rw [List.all_eq_false]
            exact ⟨xs[k], List.getElem_mem hlt, by rw [hp]; decide⟩
          have HF := hide F
          clear F
          go_wp2_with fail
          refine (unhide HC _).mono ?_
          rintro e w1 ⟨rfl, hb1⟩
          rw [hp]
          go_wp2
          go_ret
          exact ⟨ret_bool (unhide HF).symm, hbl.trans (((Below.refl _ _).alloc hbl.size _).trans (hb1.mono (Nat.le_trans hbl.size (by simp))))⟩
        · have A' : ∀ j (h : j < xs.length), j < k + 1 → sItB xs[j] = true := by
            intro j h h1
            by_cases e : j = k
            · subst e; exact hp
            · exact unhide HA j h (by omega)
          have HA' := hide A'
          clear A'
          go_wp2_with fail
          refine (unhide HC _).mono ?_
          rintro e w1 ⟨rfl, hb1⟩
          rw [hp]
          go_wp2
          go_roundg (xs.length - (k + 1))
          case measure => have := unhide HG; omega
          case rel => exact ⟨k + 1, by omega, rfl, by go_num, hbl.trans (((Below.refl _ _).alloc hbl.size _).trans (hb1.mono (Nat.le_trans hbl.size (by simp)))), unhide HA'⟩
      · have e : k = xs.length := by omega
        have T : xs.all sItB = true := by
          rw [List.all_eq_true]
          intro x hx
          obtain ⟨j, hj, rfl⟩ := List.getElem_of_mem hx
          exact unhide HA j hj (by omega)
        have HT := hide T
        clear T
        go_wp2
        go_ret
        exact ⟨ret_bool (unhide HT).symm, hbl⟩

theorem l1CodeOK_ok (xs : List DItem) (v : Value) (w : World) (hv : SlAt 3 32 RItem 0 w v xs) :
    Calls Tryz.prog 39 #[v, .int .i64 3000] w (Ans (.bool (scB xs)) w) := by
  rw [← scM_3000]
  exact l1CodeOK_any 3000 xs v w hv

end Go.Proofs.YtlgeioedgaajoaaGreatDoor
