import Derived.Test.YtlgeioedgaajoaaGreatDoorData
import Derived.Test.YtlgeioedgaajoaaGreatDoorProg
import Derived.WalkLawsBesides
import Derived.Deep.LoopGhost
namespace Go.Proofs.YtlgeioedgaajoaaGreatDoor
open Go.RowKit
set_option linter.unusedSimpArgs false
set_option linter.unusedVariables false

def letB (c : Int) : Bool := decide ((97 ≤ c ∧ c ≤ 122) ∨ (65 ≤ c ∧ c ≤ 90))
def digB (c : Int) : Bool := decide (48 ≤ c ∧ c ≤ 57)
def wordB (c : Int) : Bool := letB c || digB c || c == 95

theorem ret_bool {a b : Bool} (h : a = b) : Ending.returned (.bool a) = .returned (.bool b) := by rw [h]

set_option maxHeartbeats 400000 in
theorem l1Letter_ok (c : Int) (w : World) (h0 : 0 ≤ c) (h1 : c ≤ 255) :
    Calls Tryz.prog 59 #[.int .u8 c] w fun e w' => e = .returned (.bool (letB c)) ∧ w' = w := by
  go_enter Tryz.func59, Tryz.ntmps59
  go_wp2
  all_goals
    go_ret
    refine ⟨ret_bool ?_, rfl⟩
    unfold letB
    rw [Bool.eq_iff_iff]
    simp
    try omega

set_option maxHeartbeats 400000 in
theorem l1Digit_ok (c : Int) (w : World) (h0 : 0 ≤ c) (h1 : c ≤ 255) :
    Calls Tryz.prog 62 #[.int .u8 c] w fun e w' => e = .returned (.bool (digB c)) ∧ w' = w := by
  go_enter Tryz.func62, Tryz.ntmps62
  go_wp2
  all_goals
    go_ret
    refine ⟨ret_bool ?_, rfl⟩
    unfold digB
    rw [Bool.eq_iff_iff]
    simp
    try omega

set_option maxHeartbeats 400000 in
theorem isLetter_ok (c : Int) (w : World) (h0 : 0 ≤ c) (h1 : c ≤ 255) :
    Calls Tryz.prog 90 #[.int .u8 c] w fun e w' => e = .returned (.bool (letB c)) ∧ w' = w := by
  go_enter Tryz.func90, Tryz.ntmps90
  go_wp2
  all_goals
    go_ret
    refine ⟨ret_bool ?_, rfl⟩
    unfold letB
    rw [Bool.eq_iff_iff]
    simp
    try omega

set_option maxHeartbeats 400000 in
theorem isDigit_ok (c : Int) (w : World) (h0 : 0 ≤ c) (h1 : c ≤ 255) :
    Calls Tryz.prog 95 #[.int .u8 c] w fun e w' => e = .returned (.bool (digB c)) ∧ w' = w := by
  go_enter Tryz.func95, Tryz.ntmps95
  go_wp2
  all_goals
    go_ret
    refine ⟨ret_bool ?_, rfl⟩
    unfold digB
    rw [Bool.eq_iff_iff]
    simp
    try omega

set_option maxHeartbeats 400000 in
theorem isWordByte_ok (c : Int) (w : World) (h0 : 0 ≤ c) (h1 : c ≤ 255) :
    Calls Tryz.prog 93 #[.int .u8 c] w fun e w' => e = .returned (.bool (wordB c)) ∧ w' = w := by
  cases hl : letB c <;> cases hd : digB c
  all_goals
    go_enter Tryz.func93, Tryz.ntmps93
    go_wp2_with (first | (go_at_call 90; refine (isLetter_ok _ _ h0 h1).mono ?_; rintro e w' ⟨rfl, rfl⟩; rw [hl]) | (go_at_call 95; refine (isDigit_ok _ _ h0 h1).mono ?_; rintro e w' ⟨rfl, rfl⟩; rw [hd]))
    go_ret
    refine ⟨ret_bool ?_, rfl⟩
    simp [wordB, hl, hd]

/-- Byte i of s as a number; 0 behind the end. -/
def byt (s : ByteArray) (i : Nat) : Int := if h : i < s.size then (s[i].toNat : Int) else 0
theorem byt_lt {s : ByteArray} {i : Nat} (h : i < s.size) : byt s i = (s[i].toNat : Int) := by simp [byt, h]
theorem u8_bd (x : UInt8) : 0 ≤ (x.toNat : Int) ∧ (x.toNat : Int) ≤ 255 := by have := x.toNat_lt; omega

/-- All of p from i to n. -/
def allB (p : Nat → Bool) (i n : Nat) : Bool := decide (∀ j, j < n → i ≤ j → p j = true)
theorem allB_true {p : Nat → Bool} {i n : Nat} (h : ∀ j, j < n → i ≤ j → p j = true) : allB p i n = true := by simpa [allB] using h
theorem allB_false {p : Nat → Bool} {i n k : Nat} (h1 : k < n) (h2 : i ≤ k) (h : p k = false) : allB p i n = false := by
  unfold allB
  rw [decide_eq_false_iff_not]
  intro hh
  have := hh k h1 h2
  rw [h] at this
  cases this

def freshB (s : ByteArray) : Bool := decide (2 ≤ s.size ∧ s.size ≤ 10) && decide (byt s 0 = 36) && !decide (byt s 1 = 48) && allB (fun i => digB (byt s i)) 1 s.size

set_option maxHeartbeats 400000 in
theorem l1Fresh_ok (s : ByteArray) (w : World) (hs : Len s.size) :
    Calls Tryz.prog 38 #[.string s] w fun e w' => e = .returned (.bool (freshB s)) ∧ w' = w := by
  unfold Len at hs
  by_cases h1 : s.size < 2
  · have e : freshB s = false := by simp [freshB]; omega
    rw [e]
    have d1 : decide ((s.size : Int) < 2) = true := by simp; omega
    go_enter Tryz.func38, Tryz.ntmps38
    go_wp2
    go_ret
    exact ⟨rfl, rfl⟩
  have d1 : decide ((s.size : Int) < 2) = false := by simp; omega
  by_cases h2 : 10 < s.size
  · have e : freshB s = false := by simp [freshB]; omega
    rw [e]
    have d2 : decide (10 < (s.size : Int)) = true := by simp; omega
    go_enter Tryz.func38, Tryz.ntmps38
    go_wp2
    go_ret
    exact ⟨rfl, rfl⟩
  have d2 : decide (10 < (s.size : Int)) = false := by simp; omega
  have g0 : 0 < s.size := by omega
  have g1 : 1 < s.size := by omega
  have b0 := byt_lt g0
  have b1 := byt_lt g1
  by_cases h3 : (s[0].toNat : Int) = 36
  case neg =>
    have e : freshB s = false := by simp [freshB, b0, h3]
    rw [e]
    have d3 : ((s[0].toNat : Int) != 36) = true := by rw [bne_iff_ne]; exact h3
    clear b0 b1 e
    go_enter Tryz.func38, Tryz.ntmps38
    go_wp2
    go_ret
    exact ⟨rfl, rfl⟩
  have d3 : ((s[0].toNat : Int) != 36) = false := by simp [h3]
  by_cases h4 : (s[1].toNat : Int) = 48
  · have e : freshB s = false := by simp [freshB, b1, h4]
    rw [e]
    have d4 : ((s[1].toNat : Int) == 48) = true := by simp [h4]
    clear b0 b1 e h3 h4
    go_enter Tryz.func38, Tryz.ntmps38
    go_wp2
    go_ret
    exact ⟨rfl, rfl⟩
  have d4 : ((s[1].toNat : Int) == 48) = false := by simp [h4]
  have e : freshB s = allB (fun i => digB (byt s i)) 1 s.size := by
    simp only [freshB, b0, b1, h3, h4]
    simp
    intro h
    omega
  rw [e]
  clear b0 b1 e h3 h4
  go_enter Tryz.func38, Tryz.ntmps38
  go_wp2
  go_loopg [3] (s.size - 1) (fun g i wr => ∃ (k : Nat), k ≤ s.size ∧ 1 ≤ k ∧ g = s.size - k ∧ i = .int .i64 k ∧ wr = w ∧ ∀ j, j < k → 1 ≤ j → digB (byt s j) = true)
  case atStart => exact ⟨1, by omega, Nat.le_refl _, by omega, rfl, rfl, fun j h1 h2 => by omega⟩
  case round =>
    obtain ⟨k, hk, hk1, hg, rfl, rfl, hall⟩ := hrel
    have HG := hide hg
    have HA := hide hall
    clear hg hall
    by_cases hlt : k < s.size
    · have hbd := u8_bd s[k]
      cases hd : digB (s[k].toNat : Int)
      · have F : allB (fun i => digB (byt s i)) 1 s.size = false := allB_false hlt hk1 (by rw [byt_lt hlt]; exact hd)
        have HF := hide F
        clear F
        go_wp2_with (go_at_call 62; refine (l1Digit_ok _ _ (by omega) (by omega)).mono ?_; rintro e w' ⟨rfl, rfl⟩; rw [hd])
        go_ret
        exact ⟨ret_bool (unhide HF).symm, rfl⟩
      · have A' : ∀ j, j < k + 1 → 1 ≤ j → digB (byt s j) = true := by
          intro j h1 h2
          by_cases e : j = k
          · subst e; rw [byt_lt hlt]; exact hd
          · exact unhide HA j (by omega) h2
        have HA' := hide A'
        clear A'
        go_wp2_with (go_at_call 62; refine (l1Digit_ok _ _ (by omega) (by omega)).mono ?_; rintro e w' ⟨rfl, rfl⟩; rw [hd])
        go_roundg (s.size - (k + 1))
        case measure => have := unhide HG; omega
        case rel => exact ⟨k + 1, by omega, by omega, rfl, by go_num, rfl, unhide HA'⟩
    · have e : k = s.size := by omega
      have T : allB (fun i => digB (byt s i)) 1 s.size = true := allB_true (by have := unhide HA; rw [e] at this; exact this)
      have HT := hide T
      clear T
      go_wp2
      go_ret
      exact ⟨ret_bool (unhide HT).symm, rfl⟩

end Go.Proofs.YtlgeioedgaajoaaGreatDoor
