import Derived.Test.YtlgeioedgaajoaaGreatDoorKw
namespace Go.Proofs.YtlgeioedgaajoaaGreatDoor
open Go.RowKit
set_option linter.unusedSimpArgs false
set_option linter.unusedVariables false

def plainB (s : ByteArray) : Bool := decide (1 ≤ s.size ∧ s.size ≤ 40) && letB (byt s 0) && !kwB s && allB (fun i => wordB (byt s i)) 0 s.size

/-- It answers v and leaves old memory alone. -/
def Ans (v : Value) (w : World) (e : Ending) (w' : World) : Prop := e = .returned v ∧ Below w.heap.size w w'

set_option maxHeartbeats 1000000 in
theorem l1Plain_ok (s : ByteArray) (w : World) (hs : Len s.size) :
    Calls Tryz.prog 37 #[.string s] w (Ans (.bool (plainB s)) w) := by
  unfold Len at hs
  by_cases h1 : s.size < 1
  · have e : plainB s = false := by simp [plainB]; omega
    rw [e]
    have d1 : decide ((s.size : Int) < 1) = true := by simp; omega
    clear e
    go_enter Tryz.func37, Tryz.ntmps37
    go_wp2
    go_ret
    exact ⟨rfl, Below.refl _ _⟩
  have d1 : decide ((s.size : Int) < 1) = false := by simp; omega
  by_cases h2 : 40 < s.size
  · have e : plainB s = false := by simp [plainB]; omega
    rw [e]
    have d2 : decide (40 < (s.size : Int)) = true := by simp; omega
    clear e
    go_enter Tryz.func37, Tryz.ntmps37
    go_wp2
    go_ret
    exact ⟨rfl, Below.refl _ _⟩
  have d2 : decide (40 < (s.size : Int)) = false := by simp; omega
  have g0 : 0 < s.size := by omega
  have b0 := byt_lt g0
  have hb0 := u8_bd s[0]
  cases hl : letB (s[0].toNat : Int)
  · have e : plainB s = false := by simp [plainB, b0, hl]
    rw [e]
    clear e b0
    go_enter Tryz.func37, Tryz.ntmps37
    go_wp2_with (go_at_call 59; refine (l1Letter_ok _ _ (by omega) (by omega)).mono ?_; rintro e w' ⟨rfl, rfl⟩; rw [hl])
    go_ret
    exact ⟨rfl, Below.refl _ _⟩
  cases hkw : kwB s
  · have e : plainB s = allB (fun i => wordB (byt s i)) 0 s.size := by
      have : 1 ≤ s.size ∧ s.size ≤ 40 := by omega
      simp [plainB, b0, hl, hkw, this]
    rw [e]
    clear e b0
    have HK := hide hkw
    clear hkw
    go_enter Tryz.func37, Tryz.ntmps37
    go_wp2_with fail
    refine (l1Letter_ok _ _ (by omega) (by omega)).mono ?_
    rintro e w' ⟨rfl, rfl⟩
    rw [hl]
    go_wp2_with fail
    refine (l1Keywords_ok _).mono ?_
    rintro e w1 ⟨v, rfl, hv, hbl⟩
    obtain ⟨av, cv, rfl⟩ := hv.shape
    have HV := hide hv
    clear hv
    go_wp2_with fail
    refine (l1In_ok kws _ s _ ?_).mono ?_
    · exact (unhide HV).lower RStr_lowers (Nat.zero_le _)
    rintro e w1 ⟨rfl, rfl⟩
    rw [inB_kws, unhide HK]
    clear HV
    go_wp2
    go_loopg [3] s.size (fun g i wr => ∃ (k : Nat), k ≤ s.size ∧ g = s.size - k ∧ i = .int .i64 k ∧ wr = w1 ∧ ∀ j, j < k → 0 ≤ j → wordB (byt s j) = true)
    case atStart => exact ⟨0, by omega, by omega, rfl, rfl, fun j h1 h2 => by omega⟩
    case round =>
      obtain ⟨k, hk, hg, rfl, rfl, hall⟩ := hrel
      have HG := hide hg
      have HA := hide hall
      clear hg hall
      by_cases hlt : k < s.size
      · have hbd := u8_bd s[k]
        have W : wordB (byt s k) = (letB (s[k].toNat : Int) || digB (s[k].toNat : Int) || (s[k].toNat : Int) == 95) := by rw [byt_lt hlt]; rfl
        cases hl : letB (s[k].toNat : Int) <;> cases hd : digB (s[k].toNat : Int) <;> cases hu : ((s[k].toNat : Int) == 95)
        case false.false.false =>
          have hu' : ((s[k].toNat : Int) != 95) = true := by rw [bne, hu]; rfl
          have F : allB (fun i => wordB (byt s i)) 0 s.size = false := allB_false hlt (Nat.zero_le _) (by rw [W, hl, hd, hu]; rfl)
          have HF := hide F
          clear F W
          go_wp2_with (first | (go_at_call 59; refine (l1Letter_ok _ _ (by omega) (by omega)).mono ?_; rintro e w' ⟨rfl, rfl⟩; rw [hl]) | (go_at_call 62; refine (l1Digit_ok _ _ (by omega) (by omega)).mono ?_; rintro e w' ⟨rfl, rfl⟩; rw [hd]))
          go_ret
          exact ⟨ret_bool (unhide HF).symm, hbl⟩
        all_goals
          have hu' : ((s[k].toNat : Int) != 95) = !((s[k].toNat : Int) == 95) := rfl
          rw [hu] at hu'
          have A' : ∀ j, j < k + 1 → 0 ≤ j → wordB (byt s j) = true := by
            intro j h1 h2
            by_cases e : j = k
            · subst e; rw [W, hl, hd, hu]; rfl
            · exact unhide HA j (by omega) h2
          have HA' := hide A'
          clear A' W
          go_wp2_with (first | (go_at_call 59; refine (l1Letter_ok _ _ (by omega) (by omega)).mono ?_; rintro e w' ⟨rfl, rfl⟩; rw [hl]) | (go_at_call 62; refine (l1Digit_ok _ _ (by omega) (by omega)).mono ?_; rintro e w' ⟨rfl, rfl⟩; rw [hd]))
          go_roundg (s.size - (k + 1))
          case measure => have := unhide HG; omega
          case rel => exact ⟨k + 1, by omega, rfl, by go_num, rfl, unhide HA'⟩
      · have e : k = s.size := by omega
        have T : allB (fun i => wordB (byt s i)) 0 s.size = true := allB_true (by have := unhide HA; rw [e] at this; exact this)
        have HT := hide T
        clear T
        go_wp2
        go_ret
        exact ⟨ret_bool (unhide HT).symm, hbl⟩
  · have e : plainB s = false := by simp [plainB, hkw]
    rw [e]
    clear e b0
    have HK := hide hkw
    clear hkw
    go_enter Tryz.func37, Tryz.ntmps37
    go_wp2_with fail
    refine (l1Letter_ok _ _ (by omega) (by omega)).mono ?_
    rintro e w' ⟨rfl, rfl⟩
    rw [hl]
    go_wp2_with fail
    refine (l1Keywords_ok _).mono ?_
    rintro e w1 ⟨v, rfl, hv, hbl⟩
    obtain ⟨av, cv, rfl⟩ := hv.shape
    have HV := hide hv
    clear hv
    go_wp2_with fail
    refine (l1In_ok kws _ s _ ?_).mono ?_
    · exact (unhide HV).lower RStr_lowers (Nat.zero_le _)
    rintro e w1 ⟨rfl, rfl⟩
    rw [inB_kws, unhide HK]
    go_wp2
    go_ret
    exact ⟨rfl, hbl⟩

def nameB (s : ByteArray) : Bool := plainB s || freshB s

set_option maxHeartbeats 1000000 in
theorem l1Name_ok (s : ByteArray) (w : World) (hs : Len s.size) :
    Calls Tryz.prog 21 #[.string s] w (Ans (.bool (nameB s)) w) := by
  cases hp : plainB s
  · have e : nameB s = freshB s := by simp [nameB, hp]
    rw [e]
    clear e
    go_enter Tryz.func21, Tryz.ntmps21
    go_wp2_with fail
    refine (l1Plain_ok s _ hs).mono ?_
    rintro e w1 ⟨rfl, hb⟩
    rw [hp]
    go_wp2_with fail
    refine (l1Fresh_ok s _ hs).mono ?_
    rintro e w' ⟨rfl, rfl⟩
    go_wp2
    go_ret
    exact ⟨rfl, hb⟩
  · have e : nameB s = true := by simp [nameB, hp]
    rw [e]
    clear e
    go_enter Tryz.func21, Tryz.ntmps21
    go_wp2_with fail
    refine (l1Plain_ok s _ hs).mono ?_
    rintro e w1 ⟨rfl, hb⟩
    rw [hp]
    go_wp2
    go_ret
    exact ⟨rfl, hb⟩

theorem typeOK_ok (t : Int) (w : World) : Calls Tryz.prog 68 #[.int .i64 t] w (fun e w' => e = .returned (.bool (decide (t = 1 ∨ t = 2))) ∧ w' = w) := by
  by_cases h1 : t = 1
  · subst h1
    go_enter Tryz.func68, Tryz.ntmps68
    go_wp2
    go_ret
    exact ⟨rfl, rfl⟩
  · by_cases h2 : t = 2
    · subst h2
      go_enter Tryz.func68, Tryz.ntmps68
      go_wp2
      go_ret
      exact ⟨rfl, rfl⟩
    · rw [decide_eq_false (fun h => by rcases h with h | h; exact h1 h; exact h2 h)]
      have b1 : (t == 1) = false := by rw [beq_eq_false_iff_ne]; exact h1
      have b2 : (t == 2) = false := by rw [beq_eq_false_iff_ne]; exact h2
      go_enter Tryz.func68, Tryz.ntmps68
      go_wp2
      go_ret
      exact ⟨rfl, rfl⟩

end Go.Proofs.YtlgeioedgaajoaaGreatDoor
