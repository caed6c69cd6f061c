import Derived.Test.YtlgeioedgaajoaaGreatDoorImplName
namespace Go.Proofs.YtlgeioedgaajoaaGreatDoor
open Go.RowKit
set_option linter.unusedSimpArgs false
set_option linter.unusedVariables false

theorem u8_int (a b : UInt8) : ((a.toNat : Int) == (b.toNat : Int)) = (a == b) := by
  rw [Bool.eq_iff_iff, beq_iff_eq, beq_iff_eq, Int.ofNat_inj, UInt8.toNat_inj]

theorem first_is (s : ByteArray) (h : 1 ≤ s.size) : ((s.extract 0 1).toList == [36]) = (byt s 0 == 36) := by
  rw [byt_lt (show 0 < s.size from h), ByteArray.toList_eq]
  have e : (s.extract 0 1).data.toList = [s[0]'h] := by
    match s, h with
    | ⟨⟨a :: t⟩⟩, _ => simp; rfl
  rw [e]
  have := u8_int (s[0]'h) 36
  rw [show ((36 : UInt8).toNat : Int) = 36 from rfl] at this
  rw [this, Bool.eq_iff_iff, beq_iff_eq, beq_iff_eq, List.cons.injEq]
  simp

/-- What stands behind the first byte. -/
def tl (s : ByteArray) : ByteArray := s.extract 1 s.size
theorem tl_size (s : ByteArray) : (tl s).size = s.size - 1 := by simp [tl]
theorem tl_byt (s : ByteArray) (i : Nat) (h : i < s.size - 1) : byt (tl s) i = byt s (i + 1) := by
  have h1 : i < (tl s).size := by rw [tl_size]; exact h
  rw [byt_lt h1, byt_lt (show i + 1 < s.size by omega)]
  congr 2
  simp only [tl, ByteArray.getElem_eq_getElem_data, ByteArray.data_extract, Array.getElem_extract, Nat.add_comm]

def startB (s : ByteArray) : Bool := decide (1 ≤ s.size) && (byt s 0 == 36)

set_option maxHeartbeats 400000 in
theorem hasPrefix_ok (s : ByteArray) (w : World) (hs : Len s.size) :
    Calls Tryz.prog 119 #[.string s, .string ⟨#[36]⟩] w fun e w' => e = .returned (.bool (startB s)) ∧ w' = w := by
  unfold Len at hs
  by_cases h1 : 1 ≤ s.size
  · have e : startB s = ((s.extract 0 1).toList == [36]) := by rw [first_is s h1]; simp [startB, h1]
    rw [e]
    clear e
    go_enter Tryz.func119, Tryz.ntmps119
    go_wp2
    go_ret
    exact ⟨rfl, rfl⟩
  · have e : startB s = false := by simp [startB, h1]
    rw [e]
    clear e
    go_enter Tryz.func119, Tryz.ntmps119
    go_wp2
    go_ret
    exact ⟨rfl, rfl⟩

set_option maxHeartbeats 400000 in
theorem cutLite_ok (s : ByteArray) (w : World) (hs : Len s.size) :
    Calls Tryz.prog 110 #[.string s, .string ⟨#[36]⟩] w fun e w' => e = .returned (.tuple #[.string (if startB s = true then tl s else s), .bool (startB s)]) ∧ w' = w := by
  have HS := hide hs
  unfold Len at hs
  cases hst : startB s
  · rw [if_neg (by decide)]
    go_enter Tryz.func110, Tryz.ntmps110
    go_wp2_with (go_at_call 119; refine (hasPrefix_ok s _ (unhide HS)).mono ?_; rintro e w' ⟨rfl, rfl⟩; rw [hst])
    go_ret2
    exact ⟨rfl, rfl⟩
  · rw [if_pos rfl]
    have h1 : 1 ≤ s.size := by
      simp [startB] at hst
      have := hst.1
      omega
    have h1' : (1 : Int) ≤ (s.size : Int) := by omega
    have HT : Hid (tl s = s.extract 1 s.size) := rfl
    go_enter Tryz.func110, Tryz.ntmps110
    go_wp2_with (go_at_call 119; refine (hasPrefix_ok s _ (unhide HS)).mono ?_; rintro e w' ⟨rfl, rfl⟩; rw [hst])
    go_ret2
    exact ⟨rfl, rfl⟩

set_option maxHeartbeats 400000 in
theorem cutPrefix_ok (s : ByteArray) (w : World) (hs : Len s.size) :
    Calls Tryz.prog 94 #[.string s, .string ⟨#[36]⟩] w fun e w' => e = .returned (.tuple #[.string (if startB s = true then tl s else s), .bool (startB s)]) ∧ w' = w := by
  cases hst : startB s
  · rw [if_neg (by decide)]
    go_enter Tryz.func94, Tryz.ntmps94
    go_wp2_with (go_at_call 110; refine (cutLite_ok s _ hs).mono ?_; rintro e w' ⟨rfl, rfl⟩; rw [hst, if_neg (by decide)])
    go_ret2
    exact ⟨rfl, rfl⟩
  · rw [if_pos rfl]
    go_enter Tryz.func94, Tryz.ntmps94
    go_wp2_with (go_at_call 110; refine (cutLite_ok s _ hs).mono ?_; rintro e w' ⟨rfl, rfl⟩; rw [hst, if_pos rfl])
    go_ret2
    exact ⟨rfl, rfl⟩

theorem fresh_alt (s : ByteArray) (h : startB s = true) : freshB s = (decide (1 ≤ (tl s).size ∧ (tl s).size ≤ 9) && !decide (byt (tl s) 0 = 48) && (bys (tl s)).all digB) := by
  have hs1 : 1 ≤ s.size := by simp [startB] at h; have := h.1; omega
  have hb0 : byt s 0 = 36 := by simp [startB] at h; exact h.2
  rw [all_bys, tl_size]
  by_cases h2 : 2 ≤ s.size
  · have e1 : byt (tl s) 0 = byt s 1 := tl_byt s 0 (by omega)
    have e2 : allB (fun i => digB (byt (tl s) i)) 0 (s.size - 1) = allB (fun i => digB (byt s i)) 1 s.size := by
      unfold allB
      rw [decide_eq_decide]
      constructor
      · intro hh j hj h1j
        have := hh (j - 1) (by omega) (Nat.zero_le _)
        simp only at this
        rw [tl_byt s (j - 1) (by omega), show j - 1 + 1 = j from by omega] at this
        exact this
      · intro hh j hj _
        simp only
        rw [tl_byt s j hj]
        exact hh (j + 1) (by omega) (by omega)
    have e3 : decide (2 ≤ s.size ∧ s.size ≤ 10) = decide (1 ≤ s.size - 1 ∧ s.size - 1 ≤ 9) := by rw [decide_eq_decide]; omega
    rw [e1, e2]
    simp only [freshB, hb0, e3]
    simp
  · have e3 : decide (2 ≤ s.size ∧ s.size ≤ 10) = false := by rw [decide_eq_false_iff_not]; omega
    have e4 : decide (1 ≤ s.size - 1 ∧ s.size - 1 ≤ 9) = false := by rw [decide_eq_false_iff_not]; omega
    simp only [freshB, e3, e4, Bool.false_and]

theorem fresh_not (s : ByteArray) (h : startB s = false) : freshB s = false := by
  unfold startB at h
  unfold freshB
  by_cases h1 : 1 ≤ s.size
  · simp only [h1, decide_true, Bool.true_and] at h
    have : ¬ byt s 0 = 36 := by intro hh; rw [hh] at h; exact absurd h (by decide)
    simp [this]
  · have : decide (2 ≤ s.size ∧ s.size ≤ 10) = false := by rw [decide_eq_false_iff_not]; omega
    rw [this]
    simp

set_option maxHeartbeats 400000 in
theorem isFresh_ok (s : ByteArray) (w : World) (hs : Len s.size) :
    Calls Tryz.prog 67 #[.string s] w (Ans (.bool (freshB s)) w) := by
  cases hst : startB s
  · rw [fresh_not s hst]
    go_enter Tryz.func67, Tryz.ntmps67
    go_wp2_with (go_at_call 94; refine (cutPrefix_ok s _ hs).mono ?_; rintro e w' ⟨rfl, rfl⟩; rw [hst, if_neg (by decide)])
    go_ret
    exact ⟨rfl, Below.refl _ _⟩
  rw [fresh_alt s hst]
  have hls : Len (tl s).size := by unfold Len at *; rw [tl_size]; omega
  generalize htl : tl s = d at *
  have HT := hide htl
  have HL := hide hls
  clear htl
  unfold Len at hls
  by_cases h1 : d.size < 1
  · have e : (decide (1 ≤ d.size ∧ d.size ≤ 9) && !decide (byt d 0 = 48) && (bys d).all digB) = false := by
      have : decide (1 ≤ d.size ∧ d.size ≤ 9) = false := by rw [decide_eq_false_iff_not]; omega
      simp only [this, Bool.false_and]
    rw [e]
    have d1 : decide ((d.size : Int) < 1) = true := by simp; omega
    clear e
    go_enter Tryz.func67, Tryz.ntmps67
    go_wp2_with (go_at_call 94; refine (cutPrefix_ok s _ hs).mono ?_; rintro e w' ⟨rfl, rfl⟩; rw [hst, if_pos rfl, unhide HT])
    go_ret
    exact ⟨rfl, Below.refl _ _⟩
  have d1 : decide ((d.size : Int) < 1) = false := by simp; omega
  by_cases h2 : 9 < d.size
  · have e : (decide (1 ≤ d.size ∧ d.size ≤ 9) && !decide (byt d 0 = 48) && (bys d).all digB) = false := by
      have : decide (1 ≤ d.size ∧ d.size ≤ 9) = false := by rw [decide_eq_false_iff_not]; omega
      simp only [this, Bool.false_and]
    rw [e]
    have d2 : decide (9 < (d.size : Int)) = true := by simp; omega
    clear e
    go_enter Tryz.func67, Tryz.ntmps67
    go_wp2_with (go_at_call 94; refine (cutPrefix_ok s _ hs).mono ?_; rintro e w' ⟨rfl, rfl⟩; rw [hst, if_pos rfl, unhide HT])
    go_ret
    exact ⟨rfl, Below.refl _ _⟩
  have d2 : decide (9 < (d.size : Int)) = false := by simp; omega
  have g0 : 0 < d.size := by omega
  have b0 := byt_lt g0
  by_cases h3 : (d[0].toNat : Int) = 48
  · have e : (decide (1 ≤ d.size ∧ d.size ≤ 9) && !decide (byt d 0 = 48) && (bys d).all digB) = false := by simp [b0, h3]
    rw [e]
    have d3 : ((d[0].toNat : Int) == 48) = true := by rw [beq_iff_eq]; exact h3
    clear e b0 h3
    go_enter Tryz.func67, Tryz.ntmps67
    go_wp2_with (go_at_call 94; refine (cutPrefix_ok s _ hs).mono ?_; rintro e w' ⟨rfl, rfl⟩; rw [hst, if_pos rfl, unhide HT])
    go_ret
    exact ⟨rfl, Below.refl _ _⟩
  have d3 : ((d[0].toNat : Int) == 48) = false := by rw [beq_eq_false_iff_ne]; exact h3
  have e : (decide (1 ≤ d.size ∧ d.size ≤ 9) && !decide (byt d 0 = 48) && (bys d).all digB) = (bys d).all digB := by
    have : 1 ≤ d.size ∧ d.size ≤ 9 := by omega
    simp [b0, h3, this]
  rw [e]
  clear e b0 h3
  have hcv := fun w => Lib.run_convert_string_bytes (P := Tryz.prog) w 9 49 5 d Tryz.underlying9 Tryz.underlying49 Tryz.underlying5
  go_enter Tryz.func67, Tryz.ntmps67
  go_wp2_with fail
  refine (cutPrefix_ok s _ hs).mono ?_
  rintro e w' ⟨rfl, rfl⟩
  rw [hst, if_pos rfl, unhide HT]
  go_wp2_with fail
  refine (everyByte_isDigit_ok digB hDigit (bys d) _ _ (bytes_at _ _ d _ (unhide HL) (grownCap_ge _ _ _ _))).mono ?_
  rintro e w1 ⟨rfl, hb⟩
  go_wp2
  go_ret
  exact ⟨rfl, (bytes_below _ _ _).trans (hb.mono (bytes_below _ _ _).size)⟩

set_option maxHeartbeats 400000 in
theorem nameOK_ok (s : ByteArray) (w : World) (hs : Len s.size) :
    Calls Tryz.prog 44 #[.string s] w (Ans (.bool (nameB s)) w) := by
  cases hp : plainB s
  · have e : nameB s = freshB s := by simp [nameB, hp]
    rw [e]
    clear e
    go_enter Tryz.func44, Tryz.ntmps44
    go_wp2_with fail
    refine (isName_ok s _ hs).mono ?_
    rintro e w1 ⟨rfl, hb⟩
    rw [hp]
    go_wp2_with fail
    refine (isFresh_ok s _ hs).mono ?_
    rintro e w2 ⟨rfl, hb2⟩
    go_wp2
    go_ret
    exact ⟨rfl, hb.trans (hb2.mono hb.size)⟩
  · have e : nameB s = true := by simp [nameB, hp]
    rw [e]
    clear e
    go_enter Tryz.func44, Tryz.ntmps44
    go_wp2_with fail
    refine (isName_ok s _ hs).mono ?_
    rintro e w1 ⟨rfl, hb⟩
    rw [hp]
    go_wp2
    go_ret
    exact ⟨rfl, hb⟩

end Go.Proofs.YtlgeioedgaajoaaGreatDoor
