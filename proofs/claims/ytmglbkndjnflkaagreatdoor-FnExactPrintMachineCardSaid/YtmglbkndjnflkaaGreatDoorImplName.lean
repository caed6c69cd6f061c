import Derived.Test.YtmglbkndjnflkaaGreatDoorEvery
namespace Go.Proofs.YtmglbkndjnflkaaGreatDoor
open Go.RowKit
set_option linter.unusedSimpArgs false
set_option linter.unusedVariables false

/-- The bytes of s as numbers. -/
def bys (s : ByteArray) : List Int := s.data.toList.map (fun b => (b.toNat : Int))
theorem bys_length (s : ByteArray) : (bys s).length = s.size := by simp [bys]
theorem bys_get (s : ByteArray) (i : Nat) (h : i < (bys s).length) : (bys s)[i] = byt s i := by
  have h' : i < s.size := by rw [bys_length] at h; exact h
  rw [byt_lt h']
  simp [bys]
  rfl

/-- '[]byte(s)' as a slice of bytes. -/
theorem bytes_at (w : World) (e : TypeId) (s : ByteArray) (cap : Nat) (hs : Len s.size) (hcap : s.size ≤ cap) :
    SlAt 1 1 RByte 0 (Lib.bytesWorld w e s) (.slice (some ⟨w.heap.size, 0, none⟩) s.size cap) (bys s) := by
  have hl := bys_length s
  refine ⟨_, cap, by rw [hl], ⟨by rw [hl, Nat.mul_one]; exact hs, by rw [hl]; exact hcap⟩, by rw [hl]; exact hs, fun i hi => ?_⟩
  have hi' : i < s.size := by omega
  refine ⟨_, 0, [.int .u8 (bys s)[i]], rfl, Nat.zero_le _, by rw [Lib.bytesWorld_size]; omega, rfl, fun j hj => ?_, rfl, ?_, ?_⟩
  · have hj0 : j = 0 := by simpa using hj
    subst hj0
    simp only [Nat.zero_add, Nat.mul_one, Nat.add_zero, List.getElem_cons_zero]
    rw [Lib.bytesWorld_cell w e s i hi', bys_get, byt_lt hi']
    simp [List.getD, hi']
    rfl
  · rw [bys_get, byt_lt hi']; exact (u8_bd _).1
  · rw [bys_get, byt_lt hi']; exact (u8_bd _).2

theorem bytes_below (w : World) (e : TypeId) (s : ByteArray) : Below w.heap.size w (Lib.bytesWorld w e s) := by
  refine ⟨?_, ?_, ?_, by rw [Lib.bytesWorld_size]; omega, fun k hk => Lib.bytesWorld_at_old w e s k hk⟩
  all_goals simp [Lib.bytesWorld, World.freeze, World.alloc, World.drew, -World.alloc_eq, -World.drew_eq]

theorem all_bys (p : Int → Bool) (s : ByteArray) : (bys s).all p = allB (fun i => p (byt s i)) 0 s.size := by
  rw [Bool.eq_iff_iff, List.all_eq_true]
  constructor
  · intro h
    refine allB_true fun j hj _ => ?_
    have hj' : j < (bys s).length := by rw [bys_length]; exact hj
    rw [← bys_get s j hj']
    exact h _ (List.getElem_mem hj')
  · intro h x hx
    obtain ⟨j, hj, rfl⟩ := List.getElem_of_mem hx
    rw [bys_get]
    have h' := h
    unfold allB at h'
    rw [decide_eq_true_iff] at h'
    exact h' j (by rw [bys_length] at hj; exact hj) (Nat.zero_le _)

theorem hWord (x : Int) (cs : List Value) (w : World) (h : RByte 0 w cs x) : Calls Tryz.prog 116 #[valOfByte cs] w (Ans (.bool (wordB x)) w) := by
  obtain ⟨rfl, h0, h1⟩ := h
  refine (isWordByte_ok x w h0 h1).mono ?_
  rintro e w' ⟨rfl, rfl⟩
  exact ⟨rfl, Below.refl _ _⟩
theorem hDigit (x : Int) (cs : List Value) (w : World) (h : RByte 0 w cs x) : Calls Tryz.prog 118 #[valOfByte cs] w (Ans (.bool (digB x)) w) := by
  obtain ⟨rfl, h0, h1⟩ := h
  refine (isDigit_ok x w h0 h1).mono ?_
  rintro e w' ⟨rfl, rfl⟩
  exact ⟨rfl, Below.refl _ _⟩

theorem empty_yes (s : ByteArray) (h : s.size = 0) : (s.toList == []) = true := by
  have e : s.data.toList = [] := List.eq_nil_of_length_eq_zero (by rw [Array.length_toList]; exact h)
  rw [ByteArray.toList_eq, e]
  rfl
theorem empty_no (s : ByteArray) (h : s.size ≠ 0) : (s.toList == []) = false := by
  rw [beq_eq_false_iff_ne, ByteArray.toList_eq]
  intro hh
  have := congrArg List.length hh
  rw [Array.length_toList] at this
  exact h this

set_option maxHeartbeats 400000 in
theorem isName_ok (s : ByteArray) (w : World) (hs : Len s.size) :
    Calls Tryz.prog 89 #[.string s] w (Ans (.bool (plainB s)) w) := by
  have HS := hide hs
  unfold Len at hs
  by_cases h1 : s.size < 1
  · have e : plainB s = false := by simp [plainB]; omega
    rw [e]
    have d1 : (s.toList == []) = true := empty_yes s (by omega)
    clear e
    go_enter Tryz.func89, Tryz.ntmps89
    go_wp2
    go_ret
    exact ⟨rfl, Below.refl _ _⟩
  have d1 : (s.toList == []) = false := empty_no s (by omega)
  by_cases h2 : 40 < s.size
  · have e : plainB s = false := by simp [plainB]; omega
    rw [e]
    have d2 : decide (40 < (s.size : Int)) = true := by simp; omega
    clear e
    go_enter Tryz.func89, Tryz.ntmps89
    go_wp2
    go_ret
    exact ⟨rfl, Below.refl _ _⟩
  have d2 : decide (40 < (s.size : Int)) = false := by simp; omega
  have g0 : 0 < s.size := by omega
  have b0 := byt_lt g0
  have hb0 := u8_bd s[0]
  cases hl : letB (s[0].toNat : Int)
  · have e : plainB s = false := by simp [plainB, b0, hl]
    rw [e]
    clear e b0
    go_enter Tryz.func89, Tryz.ntmps89
    go_wp2_with (go_at_call 113; refine (isLetter_ok _ _ (by omega) (by omega)).mono ?_; rintro e w' ⟨rfl, rfl⟩; rw [hl])
    go_ret
    exact ⟨rfl, Below.refl _ _⟩
  cases hkw : kwB s
  · have e : plainB s = (bys s).all wordB := by
      rw [all_bys]
      have : 1 ≤ s.size ∧ s.size ≤ 40 := by omega
      simp [plainB, b0, hl, hkw, this]
    rw [e]
    clear e b0
    have hcv := fun w => Lib.run_convert_string_bytes (P := Tryz.prog) w 9 49 5 s Tryz.underlying9 Tryz.underlying49 Tryz.underlying5
    go_enter Tryz.func89, Tryz.ntmps89
    go_wp2_with fail
    refine (isLetter_ok _ _ (by omega) (by omega)).mono ?_
    rintro e w' ⟨rfl, rfl⟩
    rw [hl]
    go_wp2_with fail
    refine (isKeyword_ok _ _).mono ?_
    rintro e w' ⟨rfl, rfl⟩
    rw [hkw]
    go_wp2_with fail
    refine (everyByte_isWordByte_ok wordB hWord (bys s) _ _ (bytes_at _ _ s _ (unhide HS) (grownCap_ge _ _ _ _))).mono ?_
    rintro e w1 ⟨rfl, hb⟩
    go_wp2
    go_ret
    exact ⟨rfl, (bytes_below _ _ _).trans (hb.mono (bytes_below _ _ _).size)⟩
  · have e : plainB s = false := by simp [plainB, hkw]
    rw [e]
    clear e b0
    go_enter Tryz.func89, Tryz.ntmps89
    go_wp2_with fail
    refine (isLetter_ok _ _ (by omega) (by omega)).mono ?_
    rintro e w' ⟨rfl, rfl⟩
    rw [hl]
    go_wp2_with fail
    refine (isKeyword_ok _ _).mono ?_
    rintro e w' ⟨rfl, rfl⟩
    rw [hkw]
    go_wp2
    go_ret
    exact ⟨rfl, Below.refl _ _⟩

end Go.Proofs.YtmglbkndjnflkaaGreatDoor
namespace Go.Proofs.YtmglbkndjnflkaaGreatDoor
open Go.RowKit
set_option linter.unusedSimpArgs false
set_option linter.unusedVariables false

theorem u8_int (a b : UInt8) : ((a.toNat : Int) == (b.toNat : Int)) = (a == b) := by
  rw [Bool.eq_iff_iff, beq_iff_eq, beq_iff_eq, Int.ofNat_inj, UInt8.toNat_inj]

theorem first_is (s : ByteArray) (h : 1 ≤ s.size) : ((s.extract 0 1).toList == [36]) = (byt s 0 == 36) := by
  rw [byt_lt (show 0 < s.size from h), ByteArray.toList_eq]
  have e : (s.extract 0 1).data.toList = [s[0]'h] := by
    match s, h with
    | ⟨⟨a :: t⟩⟩, _ => simp; rfl
  rw [e]
  have := u8_int (s[0]'h) 36
  rw [show ((36 : UInt8).toNat : Int) = 36 from rfl] at this
  rw [this, Bool.eq_iff_iff, beq_iff_eq, beq_iff_eq, List.cons.injEq]
  simp

/-- What stands behind the first byte. -/
def tl (s : ByteArray) : ByteArray := s.extract 1 s.size
theorem tl_size (s : ByteArray) : (tl s).size = s.size - 1 := by simp [tl]
theorem tl_byt (s : ByteArray) (i : Nat) (h : i < s.size - 1) : byt (tl s) i = byt s (i + 1) := by
  have h1 : i < (tl s).size := by rw [tl_size]; exact h
  rw [byt_lt h1, byt_lt (show i + 1 < s.size by omega)]
  congr 2
  simp only [tl, ByteArray.getElem_eq_getElem_data, ByteArray.data_extract, Array.getElem_extract, Nat.add_comm]

def startB (s : ByteArray) : Bool := decide (1 ≤ s.size) && (byt s 0 == 36)

set_option maxHeartbeats 400000 in
theorem hasPrefix_ok (s : ByteArray) (w : World) (hs : Len s.size) :
    Calls Tryz.prog 136 #[.string s, .string ⟨#[36]⟩] w fun e w' => e = .returned (.bool (startB s)) ∧ w' = w := by
  unfold Len at hs
  by_cases h1 : 1 ≤ s.size
  · have e : startB s = ((s.extract 0 1).toList == [36]) := by rw [first_is s h1]; simp [startB, h1]
    rw [e]
    clear e
    go_enter Tryz.func136, Tryz.ntmps136
    go_wp2
    go_ret
    exact ⟨rfl, rfl⟩
  · have e : startB s = false := by simp [startB, h1]
    rw [e]
    clear e
    go_enter Tryz.func136, Tryz.ntmps136
    go_wp2
    go_ret
    exact ⟨rfl, rfl⟩

set_option maxHeartbeats 400000 in
theorem cutLite_ok (s : ByteArray) (w : World) (hs : Len s.size) :
    Calls Tryz.prog 128 #[.string s, .string ⟨#[36]⟩] w fun e w' => e = .returned (.tuple #[.string (if startB s = true then tl s else s), .bool (startB s)]) ∧ w' = w := by
  have HS := hide hs
  unfold Len at hs
  cases hst : startB s
  · rw [if_neg (by decide)]
    go_enter Tryz.func128, Tryz.ntmps128
    go_wp2_with (go_at_call 136; refine (hasPrefix_ok s _ (unhide HS)).mono ?_; rintro e w' ⟨rfl, rfl⟩; rw [hst])
    go_ret2
    exact ⟨rfl, rfl⟩
  · rw [if_pos rfl]
    have h1 : 1 ≤ s.size := by
      simp [startB] at hst
      have := hst.1
      omega
    have h1' : (1 : Int) ≤ (s.size : Int) := by omega
    have HT : Hid (tl s = s.extract 1 s.size) := rfl
    go_enter Tryz.func128, Tryz.ntmps128
    go_wp2_with (go_at_call 136; refine (hasPrefix_ok s _ (unhide HS)).mono ?_; rintro e w' ⟨rfl, rfl⟩; rw [hst])
    go_ret2
    exact ⟨rfl, rfl⟩

set_option maxHeartbeats 400000 in
theorem cutPrefix_ok (s : ByteArray) (w : World) (hs : Len s.size) :
    Calls Tryz.prog 117 #[.string s, .string ⟨#[36]⟩] w fun e w' => e = .returned (.tuple #[.string (if startB s = true then tl s else s), .bool (startB s)]) ∧ w' = w := by
  cases hst : startB s
  · rw [if_neg (by decide)]
    go_enter Tryz.func117, Tryz.ntmps117
    go_wp2_with (go_at_call 128; refine (cutLite_ok s _ hs).mono ?_; rintro e w' ⟨rfl, rfl⟩; rw [hst, if_neg (by decide)])
    go_ret2
    exact ⟨rfl, rfl⟩
  · rw [if_pos rfl]
    go_enter Tryz.func117, Tryz.ntmps117
    go_wp2_with (go_at_call 128; refine (cutLite_ok s _ hs).mono ?_; rintro e w' ⟨rfl, rfl⟩; rw [hst, if_pos rfl])
    go_ret2
    exact ⟨rfl, rfl⟩

theorem fresh_alt (s : ByteArray) (h : startB s = true) : freshB s = (decide (1 ≤ (tl s).size ∧ (tl s).size ≤ 9) && !decide (byt (tl s) 0 = 48) && (bys (tl s)).all digB) := by
  have hs1 : 1 ≤ s.size := by simp [startB] at h; have := h.1; omega
  have hb0 : byt s 0 = 36 := by simp [startB] at h; exact h.2
  rw [all_bys, tl_size]
  by_cases h2 : 2 ≤ s.size
  · have e1 : byt (tl s) 0 = byt s 1 := tl_byt s 0 (by omega)
    have e2 : allB (fun i => digB (byt (tl s) i)) 0 (s.size - 1) = allB (fun i => digB (byt s i)) 1 s.size := by
      unfold allB
      rw [decide_eq_decide]
      constructor
      · intro hh j hj h1j
        have := hh (j - 1) (by omega) (Nat.zero_le _)
        simp only at this
        rw [tl_byt s (j - 1) (by omega), show j - 1 + 1 = j from by omega] at this
        exact this
      · intro hh j hj _
        simp only
        rw [tl_byt s j hj]
        exact hh (j + 1) (by omega) (by omega)
    have e3 : decide (2 ≤ s.size ∧ s.size ≤ 10) = decide (1 ≤ s.size - 1 ∧ s.size - 1 ≤ 9) := by rw [decide_eq_decide]; omega
    rw [e1, e2]
    simp only [freshB, hb0, e3]
    simp
  · have e3 : decide (2 ≤ s.size ∧ s.size ≤ 10) = false := by rw [decide_eq_false_iff_not]; omega
    have e4 : decide (1 ≤ s.size - 1 ∧ s.size - 1 ≤ 9) = false := by rw [decide_eq_false_iff_not]; omega
    simp only [freshB, e3, e4, Bool.false_and]

theorem fresh_not (s : ByteArray) (h : startB s = false) : freshB s = false := by
  unfold startB at h
  unfold freshB
  by_cases h1 : 1 ≤ s.size
  · simp only [h1, decide_true, Bool.true_and] at h
    have : ¬ byt s 0 = 36 := by intro hh; rw [hh] at h; exact absurd h (by decide)
    simp [this]
  · have : decide (2 ≤ s.size ∧ s.size ≤ 10) = false := by rw [decide_eq_false_iff_not]; omega
    rw [this]
    simp

set_option maxHeartbeats 400000 in
theorem isFresh_ok (s : ByteArray) (w : World) (hs : Len s.size) :
    Calls Tryz.prog 90 #[.string s] w (Ans (.bool (freshB s)) w) := by
  cases hst : startB s
  · rw [fresh_not s hst]
    go_enter Tryz.func90, Tryz.ntmps90
    go_wp2_with (go_at_call 117; refine (cutPrefix_ok s _ hs).mono ?_; rintro e w' ⟨rfl, rfl⟩; rw [hst, if_neg (by decide)])
    go_ret
    exact ⟨rfl, Below.refl _ _⟩
  rw [fresh_alt s hst]
  have hls : Len (tl s).size := by unfold Len at *; rw [tl_size]; omega
  generalize htl : tl s = d at *
  have HT := hide htl
  have HL := hide hls
  clear htl
  unfold Len at hls
  by_cases h1 : d.size < 1
  · have e : (decide (1 ≤ d.size ∧ d.size ≤ 9) && !decide (byt d 0 = 48) && (bys d).all digB) = false := by
      have : decide (1 ≤ d.size ∧ d.size ≤ 9) = false := by rw [decide_eq_false_iff_not]; omega
      simp only [this, Bool.false_and]
    rw [e]
    have d1 : decide ((d.size : Int) < 1) = true := by simp; omega
    clear e
    go_enter Tryz.func90, Tryz.ntmps90
    go_wp2_with (go_at_call 117; refine (cutPrefix_ok s _ hs).mono ?_; rintro e w' ⟨rfl, rfl⟩; rw [hst, if_pos rfl, unhide HT])
    go_ret
    exact ⟨rfl, Below.refl _ _⟩
  have d1 : decide ((d.size : Int) < 1) = false := by simp; omega
  by_cases h2 : 9 < d.size
  · have e : (decide (1 ≤ d.size ∧ d.size ≤ 9) && !decide (byt d 0 = 48) && (bys d).all digB) = false := by
      have : decide (1 ≤ d.size ∧ d.size ≤ 9) = false := by rw [decide_eq_false_iff_not]; omega
      simp only [this, Bool.false_and]
    rw [e]
    have d2 : decide (9 < (d.size : Int)) = true := by simp; omega
    clear e
    go_enter Tryz.func90, Tryz.ntmps90
    go_wp2_with (go_at_call 117; refine (cutPrefix_ok s _ hs).mono ?_; rintro e w' ⟨rfl, rfl⟩; rw [hst, if_pos rfl, unhide HT])
    go_ret
    exact ⟨rfl, Below.refl _ _⟩
  have d2 : decide (9 < (d.size : Int)) = false := by simp; omega
  have g0 : 0 < d.size := by omega
  have b0 := byt_lt g0
  by_cases h3 : (d[0].toNat : Int) = 48
  · have e : (decide (1 ≤ d.size ∧ d.size ≤ 9) && !decide (byt d 0 = 48) && (bys d).all digB) = false := by simp [b0, h3]
    rw [e]
    have d3 : ((d[0].toNat : Int) == 48) = true := by rw [beq_iff_eq]; exact h3
    clear e b0 h3
    go_enter Tryz.func90, Tryz.ntmps90
    go_wp2_with (go_at_call 117; refine (cutPrefix_ok s _ hs).mono ?_; rintro e w' ⟨rfl, rfl⟩; rw [hst, if_pos rfl, unhide HT])
    go_ret
    exact ⟨rfl, Below.refl _ _⟩
  have d3 : ((d[0].toNat : Int) == 48) = false := by rw [beq_eq_false_iff_ne]; exact h3
  have e : (decide (1 ≤ d.size ∧ d.size ≤ 9) && !decide (byt d 0 = 48) && (bys d).all digB) = (bys d).all digB := by
    have : 1 ≤ d.size ∧ d.size ≤ 9 := by omega
    simp [b0, h3, this]
  rw [e]
  clear e b0 h3
  have hcv := fun w => Lib.run_convert_string_bytes (P := Tryz.prog) w 9 49 5 d Tryz.underlying9 Tryz.underlying49 Tryz.underlying5
  go_enter Tryz.func90, Tryz.ntmps90
  go_wp2_with fail
  refine (cutPrefix_ok s _ hs).mono ?_
  rintro e w' ⟨rfl, rfl⟩
  rw [hst, if_pos rfl, unhide HT]
  go_wp2_with fail
  refine (everyByte_isDigit_ok digB hDigit (bys d) _ _ (bytes_at _ _ d _ (unhide HL) (grownCap_ge _ _ _ _))).mono ?_
  rintro e w1 ⟨rfl, hb⟩
  go_wp2
  go_ret
  exact ⟨rfl, (bytes_below _ _ _).trans (hb.mono (bytes_below _ _ _).size)⟩

set_option maxHeartbeats 400000 in
theorem nameOK_ok (s : ByteArray) (w : World) (hs : Len s.size) :
    Calls Tryz.prog 71 #[.string s] w (Ans (.bool (nameB s)) w) := by
  cases hp : plainB s
  · have e : nameB s = freshB s := by simp [nameB, hp]
    rw [e]
    clear e
    go_enter Tryz.func71, Tryz.ntmps71
    go_wp2_with fail
    refine (isName_ok s _ hs).mono ?_
    rintro e w1 ⟨rfl, hb⟩
    rw [hp]
    go_wp2_with fail
    refine (isFresh_ok s _ hs).mono ?_
    rintro e w2 ⟨rfl, hb2⟩
    go_wp2
    go_ret
    exact ⟨rfl, hb.trans (hb2.mono hb.size)⟩
  · have e : nameB s = true := by simp [nameB, hp]
    rw [e]
    clear e
    go_enter Tryz.func71, Tryz.ntmps71
    go_wp2_with fail
    refine (isName_ok s _ hs).mono ?_
    rintro e w1 ⟨rfl, hb⟩
    rw [hp]
    go_wp2
    go_ret
    exact ⟨rfl, hb⟩

end Go.Proofs.YtmglbkndjnflkaaGreatDoor
