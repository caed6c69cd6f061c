import Derived.Test.YtlgeioedgaajoaaGreatDoorEvery
namespace Go.Proofs.YtlgeioedgaajoaaGreatDoor
open Go.RowKit
set_option linter.unusedSimpArgs false
set_option linter.unusedVariables false

/-- The bytes of s as numbers. -/
def bys (s : ByteArray) : List Int := s.data.toList.map (fun b => (b.toNat : Int))
theorem bys_length (s : ByteArray) : (bys s).length = s.size := by simp [bys]
theorem bys_get (s : ByteArray) (i : Nat) (h : i < (bys s).length) : (bys s)[i] = byt s i := by
  have h' : i < s.size := by rw [bys_length] at h; exact h
  rw [byt_lt h']
  simp [bys]
  rfl

/-- '[]byte(s)' as a slice of bytes. -/
theorem bytes_at (w : World) (e : TypeId) (s : ByteArray) (cap : Nat) (hs : Len s.size) (hcap : s.size ≤ cap) :
    SlAt 1 1 RByte 0 (Lib.bytesWorld w e s) (.slice (some ⟨w.heap.size, 0, none⟩) s.size cap) (bys s) := by
  have hl := bys_length s
  refine ⟨_, cap, by rw [hl], ⟨by rw [hl, Nat.mul_one]; exact hs, by rw [hl]; exact hcap⟩, by rw [hl]; exact hs, fun i hi => ?_⟩
  have hi' : i < s.size := by omega
  refine ⟨_, 0, [.int .u8 (bys s)[i]], rfl, Nat.zero_le _, by rw [Lib.bytesWorld_size]; omega, rfl, fun j hj => ?_, rfl, ?_, ?_⟩
  · have hj0 : j = 0 := by simpa using hj
    subst hj0
    simp only [Nat.zero_add, Nat.mul_one, Nat.add_zero, List.getElem_cons_zero]
    rw [Lib.bytesWorld_cell w e s i hi', bys_get, byt_lt hi']
    simp [List.getD, hi']
    rfl
  · rw [bys_get, byt_lt hi']; exact (u8_bd _).1
  · rw [bys_get, byt_lt hi']; exact (u8_bd _).2

theorem bytes_below (w : World) (e : TypeId) (s : ByteArray) : Below w.heap.size w (Lib.bytesWorld w e s) := by
  refine ⟨?_, ?_, ?_, by rw [Lib.bytesWorld_size]; omega, fun k hk => Lib.bytesWorld_at_old w e s k hk⟩
  all_goals simp [Lib.bytesWorld, World.freeze, World.alloc, World.drew, -World.alloc_eq, -World.drew_eq]

theorem all_bys (p : Int → Bool) (s : ByteArray) : (bys s).all p = allB (fun i => p (byt s i)) 0 s.size := by
  rw [Bool.eq_iff_iff, List.all_eq_true]
  constructor
  · intro h
    refine allB_true fun j hj _ => ?_
    have hj' : j < (bys s).length := by rw [bys_length]; exact hj
    rw [← bys_get s j hj']
    exact h _ (List.getElem_mem hj')
  · intro h x hx
    obtain ⟨j, hj, rfl⟩ := List.getElem_of_mem hx
    rw [bys_get]
    have h' := h
    unfold allB at h'
    rw [decide_eq_true_iff] at h'
    exact h' j (by rw [bys_length] at hj; exact hj) (Nat.zero_le _)

theorem hWord (x : Int) (cs : List Value) (w : World) (h : RByte 0 w cs x) : Calls Tryz.prog 93 #[valOfByte cs] w (Ans (.bool (wordB x)) w) := by
  obtain ⟨rfl, h0, h1⟩ := h
  refine (isWordByte_ok x w h0 h1).mono ?_
  rintro e w' ⟨rfl, rfl⟩
  exact ⟨rfl, Below.refl _ _⟩
theorem hDigit (x : Int) (cs : List Value) (w : World) (h : RByte 0 w cs x) : Calls Tryz.prog 95 #[valOfByte cs] w (Ans (.bool (digB x)) w) := by
  obtain ⟨rfl, h0, h1⟩ := h
  refine (isDigit_ok x w h0 h1).mono ?_
  rintro e w' ⟨rfl, rfl⟩
  exact ⟨rfl, Below.refl _ _⟩

theorem empty_yes (s : ByteArray) (h : s.size = 0) : (s.toList == []) = true := by
  have e : s.data.toList = [] := List.eq_nil_of_length_eq_zero (by rw [Array.length_toList]; exact h)
  rw [ByteArray.toList_eq, e]
  rfl
theorem empty_no (s : ByteArray) (h : s.size ≠ 0) : (s.toList == []) = false := by
  rw [beq_eq_false_iff_ne, ByteArray.toList_eq]
  intro hh
  have := congrArg List.length hh
  rw [Array.length_toList] at this
  exact h this

set_option maxHeartbeats 400000 in
theorem isName_ok (s : ByteArray) (w : World) (hs : Len s.size) :
    Calls Tryz.prog 66 #[.string s] w (Ans (.bool (plainB s)) w) := by
  have HS := hide hs
  unfold Len at hs
  by_cases h1 : s.size < 1
  · have e : plainB s = false := by simp [plainB]; omega
    rw [e]
    have d1 : (s.toList == []) = true := empty_yes s (by omega)
    clear e
    go_enter Tryz.func66, Tryz.ntmps66
    go_wp2
    go_ret
    exact ⟨rfl, Below.refl _ _⟩
  have d1 : (s.toList == []) = false := empty_no s (by omega)
  by_cases h2 : 40 < s.size
  · have e : plainB s = false := by simp [plainB]; omega
    rw [e]
    have d2 : decide (40 < (s.size : Int)) = true := by simp; omega
    clear e
    go_enter Tryz.func66, Tryz.ntmps66
    go_wp2
    go_ret
    exact ⟨rfl, Below.refl _ _⟩
  have d2 : decide (40 < (s.size : Int)) = false := by simp; omega
  have g0 : 0 < s.size := by omega
  have b0 := byt_lt g0
  have hb0 := u8_bd s[0]
  cases hl : letB (s[0].toNat : Int)
  · have e : plainB s = false := by simp [plainB, b0, hl]
    rw [e]
    clear e b0
    go_enter Tryz.func66, Tryz.ntmps66
    go_wp2_with (go_at_call 90; refine (isLetter_ok _ _ (by omega) (by omega)).mono ?_; rintro e w' ⟨rfl, rfl⟩; rw [hl])
    go_ret
    exact ⟨rfl, Below.refl _ _⟩
  cases hkw : kwB s
  · have e : plainB s = (bys s).all wordB := by
      rw [all_bys]
      have : 1 ≤ s.size ∧ s.size ≤ 40 := by omega
      simp [plainB, b0, hl, hkw, this]
    rw [e]
    clear e b0
    have hcv := fun w => Lib.run_convert_string_bytes (P := Tryz.prog) w 9 49 5 s Tryz.underlying9 Tryz.underlying49 Tryz.underlying5
    go_enter Tryz.func66, Tryz.ntmps66
    go_wp2_with fail
    refine (isLetter_ok _ _ (by omega) (by omega)).mono ?_
    rintro e w' ⟨rfl, rfl⟩
    rw [hl]
    go_wp2_with fail
    refine (isKeyword_ok _ _).mono ?_
    rintro e w' ⟨rfl, rfl⟩
    rw [hkw]
    go_wp2_with fail
    refine (everyByte_isWordByte_ok wordB hWord (bys s) _ _ (bytes_at _ _ s _ (unhide HS) (grownCap_ge _ _ _ _))).mono ?_
    rintro e w1 ⟨rfl, hb⟩
    go_wp2
    go_ret
    exact ⟨rfl, (bytes_below _ _ _).trans (hb.mono (bytes_below _ _ _).size)⟩
  · have e : plainB s = false := by simp [plainB, hkw]
    rw [e]
    clear e b0
    go_enter Tryz.func66, Tryz.ntmps66
    go_wp2_with fail
    refine (isLetter_ok _ _ (by omega) (by omega)).mono ?_
    rintro e w' ⟨rfl, rfl⟩
    rw [hl]
    go_wp2_with fail
    refine (isKeyword_ok _ _).mono ?_
    rintro e w' ⟨rfl, rfl⟩
    rw [hkw]
    go_wp2
    go_ret
    exact ⟨rfl, Below.refl _ _⟩

end Go.Proofs.YtlgeioedgaajoaaGreatDoor
