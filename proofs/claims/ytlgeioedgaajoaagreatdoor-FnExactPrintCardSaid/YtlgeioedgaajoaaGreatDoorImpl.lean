import Derived.Test.YtlgeioedgaajoaaGreatDoorPure
import Derived.Test.YtlgeioedgaajoaaGreatDoorEvery
namespace Go.Proofs.YtlgeioedgaajoaaGreatDoor
open Go.RowKit
set_option linter.unusedSimpArgs false
set_option linter.unusedVariables false

theorem hName (x : ByteArray) (cs : List Value) (w : World) (h : RStr 0 w cs x) : Calls Tryz.prog 44 #[valOfStr cs] w (Ans (.bool (nameB x)) w) := by
  obtain ⟨rfl, h0⟩ := h
  exact nameOK_ok x w h0
theorem hCode (x : List DItem) (cs : List Value) (w : World) (h : RItems 0 w cs x) : Calls Tryz.prog 72 #[valOfItems cs] w (Ans (.bool (cdB x)) w) := by
  obtain ⟨v, rfl, h0⟩ := h
  exact codeOK_ok x v w h0

set_option maxHeartbeats 400000 in
theorem condOK_ok (c : DCond) (w : World) (hs : Len c.name.size) :
    Calls Tryz.prog 70 #[.agg #[.string c.name, .bool c.on]] w (Ans (.bool (condB c)) w) := by
  obtain ⟨s, on⟩ := c
  simp only [condB] at *
  go_enter Tryz.func70, Tryz.ntmps70
  go_wp2_with fail
  refine (nameOK_ok s _ hs).mono ?_
  rintro e w1 ⟨rfl, hb⟩
  go_wp2
  go_ret
  exact ⟨rfl, ((Below.refl _ _).alloc (Nat.le_refl _) _).trans (hb.mono (by simp))⟩
theorem hCond (x : DCond) (cs : List Value) (w : World) (h : RCond 0 w cs x) : Calls Tryz.prog 70 #[valOfCond cs] w (Ans (.bool (condB x)) w) := by
  obtain ⟨rfl, h0⟩ := h
  exact condOK_ok x w h0

set_option maxHeartbeats 1000000 in
theorem varOK_ok (x : DVar) (cl : Value) (w : World) (hs : Len x.name.size) (hcl : SlAt 2 24 RCond 0 w cl x.clock) :
    Calls Tryz.prog 47 #[.agg #[.string x.name, .int .i64 x.type, cl]] w (Ans (.bool (varB x)) w) := by
  obtain ⟨s, ty, clk⟩ := x
  simp only [varB] at *
  have HC := hide hcl
  obtain ⟨ac, cc, rfl⟩ := hcl.shape
  obtain ⟨_, _, _, _, hn, _⟩ := hcl
  unfold Len at hn
  have B0 := hide ((Below.refl w.heap.size w).alloc (Nat.le_refl _) (.cells #[.string s, .int .i64 ty, .slice ac clk.length cc] 64))
  cases hnm : nameB s
  · rw [Bool.false_and, Bool.false_and, Bool.false_and]
    go_enter Tryz.func47, Tryz.ntmps47
    go_wp2_with fail
    refine (nameOK_ok s _ hs).mono ?_
    rintro e w1 ⟨rfl, hb⟩
    obtain ⟨hc1, hf1⟩ := bcell hb
    have hz := hb.size
    have B1 : Hid (Below w.heap.size w w1) := (unhide B0).trans (hb.mono (unhide B0).size)
    try simp only [World.size_alloc] at hz hc1 hf1
    have hza1 : w.heap.size < w1.heap.size := by first | omega | (simp at hz; omega)
    clear hb hz
    rw [hnm]
    go_wp2
    go_ret
    exact ⟨rfl, unhide B1⟩
  by_cases hty : ty = 1 ∨ ty = 2
  case neg =>
    have e : decide (ty = 1 ∨ ty = 2) = false := by simpa using hty
    rw [e]
    simp only [Bool.true_and, Bool.false_and]
    have HTY := typeOK_ok ty
    rw [e] at HTY
    have HTY := hide HTY
    clear e hty
    go_enter Tryz.func47, Tryz.ntmps47
    go_wp2_with fail
    refine (nameOK_ok s _ hs).mono ?_
    rintro e w1 ⟨rfl, hb⟩
    obtain ⟨hc1, hf1⟩ := bcell hb
    have hz := hb.size
    have B1 : Hid (Below w.heap.size w w1) := (unhide B0).trans (hb.mono (unhide B0).size)
    try simp only [World.size_alloc] at hz hc1 hf1
    have hza1 : w.heap.size < w1.heap.size := by first | omega | (simp at hz; omega)
    clear hb hz
    rw [hnm]
    go_wp2_with fail
    refine (unhide HTY _).mono ?_
    rintro e w9 ⟨rfl, rfl⟩
    go_wp2
    go_ret
    exact ⟨rfl, unhide B1⟩
  have e : decide (ty = 1 ∨ ty = 2) = true := by simpa using hty
  rw [e]
  simp only [Bool.true_and]
  have HTY := typeOK_ok ty
  rw [e] at HTY
  have HTY := hide HTY
  clear e hty
  by_cases h8 : clk.length ≤ 8
  · have e : decide (clk.length ≤ 8) = true := by simpa using h8
    rw [e, Bool.true_and]
    have d8 : decide ((clk.length : Int) ≤ 8) = true := by simp; omega
    clear e
    skip
    all_goals
      go_enter Tryz.func47, Tryz.ntmps47
      go_wp2_with fail
      refine (nameOK_ok s _ hs).mono ?_
      rintro e w1 ⟨rfl, hb⟩
      obtain ⟨hc1, hf1⟩ := bcell hb
      have hz := hb.size
      have B1 : Hid (Below w.heap.size w w1) := (unhide B0).trans (hb.mono (unhide B0).size)
      try simp only [World.size_alloc] at hz hc1 hf1
      have hza1 : w.heap.size < w1.heap.size := by first | omega | (simp at hz; omega)
      clear hb hz
      rw [hnm]
      go_wp2_with fail
      refine (unhide HTY _).mono ?_
      rintro e w9 ⟨rfl, rfl⟩
      go_wp2_with fail
      refine (everyCond_condOK_ok condB hCond clk _ _ ((unhide HC).stays RCond_kept (unhide B1))).mono ?_
      rintro e w2 ⟨rfl, hb2⟩
      go_wp2
      go_ret
      exact ⟨rfl, (unhide B1).trans (hb2.mono (unhide B1).size)⟩
  · have e : decide (clk.length ≤ 8) = false := by simpa using h8
    rw [e, Bool.false_and]
    have d8 : decide ((clk.length : Int) ≤ 8) = false := by simp; omega
    clear e
    skip
    all_goals
      go_enter Tryz.func47, Tryz.ntmps47
      go_wp2_with fail
      refine (nameOK_ok s _ hs).mono ?_
      rintro e w1 ⟨rfl, hb⟩
      obtain ⟨hc1, hf1⟩ := bcell hb
      have hz := hb.size
      have B1 : Hid (Below w.heap.size w w1) := (unhide B0).trans (hb.mono (unhide B0).size)
      try simp only [World.size_alloc] at hz hc1 hf1
      have hza1 : w.heap.size < w1.heap.size := by first | omega | (simp at hz; omega)
      clear hb hz
      rw [hnm]
      go_wp2_with fail
      refine (unhide HTY _).mono ?_
      rintro e w9 ⟨rfl, rfl⟩
      go_wp2
      go_ret
      exact ⟨rfl, unhide B1⟩

theorem hVar (x : DVar) (cs : List Value) (w : World) (h : RVar 0 w cs x) : Calls Tryz.prog 47 #[valOfVar cs] w (Ans (.bool (varB x)) w) := by
  obtain ⟨cl, rfl, h0, _, h1⟩ := h
  exact varOK_ok x cl w h0 h1

set_option maxHeartbeats 1000000 in
theorem portOK_ok (x : DVar) (cl : Value) (w : World) (hs : Len x.name.size) (hcl : SlAt 2 24 RCond 0 w cl x.clock) :
    Calls Tryz.prog 46 #[.agg #[.string x.name, .int .i64 x.type, cl]] w (Ans (.bool (portB x)) w) := by
  have HV := hide (fun w' (h : Below w.heap.size w w') => varOK_ok x cl w' hs (hcl.stays RCond_kept h))
  simp only [portB]
  generalize varB x = vb at *
  obtain ⟨s, ty, clk⟩ := x
  simp only at *
  obtain ⟨ac, cc, rfl⟩ := hcl.shape
  obtain ⟨_, _, _, _, hn, _⟩ := hcl
  unfold Len at hn
  have B0 := hide ((Below.refl w.heap.size w).alloc (Nat.le_refl _) (.cells #[.string s, .int .i64 ty, .slice ac clk.length cc] 64))
  by_cases h0 : clk.length = 0
  · have e : decide (clk.length = 0) = true := by simpa using h0
    rw [e, Bool.true_and]
    have d0 : ((clk.length : Int) == 0) = true := by rw [beq_iff_eq]; omega
    clear e h0
    go_enter Tryz.func46, Tryz.ntmps46
    go_wp2_with fail
    refine (unhide HV _ (unhide B0)).mono ?_
    rintro e w1 ⟨rfl, hb⟩
    go_wp2
    go_ret
    exact ⟨rfl, (unhide B0).trans (hb.mono (unhide B0).size)⟩
  · have e : decide (clk.length = 0) = false := by simpa using h0
    rw [e, Bool.false_and]
    have d0 : ((clk.length : Int) == 0) = false := by rw [beq_eq_false_iff_ne]; omega
    clear e h0
    go_enter Tryz.func46, Tryz.ntmps46
    go_wp2
    go_ret
    exact ⟨rfl, unhide B0⟩

theorem hPort (x : DVar) (cs : List Value) (w : World) (h : RVar 0 w cs x) : Calls Tryz.prog 46 #[valOfVar cs] w (Ans (.bool (portB x)) w) := by
  obtain ⟨cl, rfl, h0, _, h1⟩ := h
  exact portOK_ok x cl w h0 h1

end Go.Proofs.YtlgeioedgaajoaaGreatDoor
