import Derived.Test.YtlgeioedgaajoaaGreatDoorImpl
namespace Go.Proofs.YtlgeioedgaajoaaGreatDoor
open Go.RowKit
set_option linter.unusedSimpArgs false
set_option linter.unusedVariables false

theorem SlAt.len {α : Type} {sz byt lo : Nat} {R : Nat → World → List Value → α → Prop} {w : World} {v : Value} {xs : List α} (h : SlAt sz byt R lo w v xs) : xs.length ≤ 140737488355328 := by
  obtain ⟨_, _, _, _, hn, _⟩ := h
  exact hn

set_option maxHeartbeats 1000000 in
theorem equationOK_ok (x : DEq) (a1 a2 a3 : Value) (w : World) (hs : Len x.call.size) (h1 : SlAt 1 16 RStr 0 w a1 x.lhs) (h2 : SlAt 3 32 RItem 0 w a2 x.code) (h3 : SlAt 1 24 RItems 0 w a3 x.args) :
    Calls Tryz.prog 49 #[.agg #[a1, a2, .string x.call, a3]] w (Ans (.bool (eqB x)) w) := by
  obtain ⟨lhs, code, s, args⟩ := x
  simp only [eqB] at *
  have n1 := h1.len
  have n2 := h2.len
  have n3 := h3.len
  obtain ⟨b1, c1, rfl⟩ := h1.shape
  obtain ⟨b2, c2, rfl⟩ := h2.shape
  obtain ⟨b3, c3, rfl⟩ := h3.shape
  have H1 := hide h1
  have H2 := hide h2
  have H3 := hide h3
  clear h1 h2 h3
  have B0 := hide ((Below.refl w.heap.size w).alloc (Nat.le_refl _) (.cells #[.slice b1 lhs.length c1, .slice b2 code.length c2, .string s, .slice b3 args.length c3] 45))
  by_cases g1 : lhs.length = 0
  · have e : decide (1 ≤ lhs.length ∧ lhs.length ≤ 500 ∧ args.length ≤ 500) = false := by rw [decide_eq_false_iff_not]; omega
    rw [e, Bool.false_and, Bool.false_and]
    have d1 : ((lhs.length : Int) == 0) = true := by rw [beq_iff_eq]; omega
    clear e g1
    go_enter Tryz.func49, Tryz.ntmps49
    go_wp2
    go_ret
    exact ⟨rfl, unhide B0⟩
  have d1 : ((lhs.length : Int) == 0) = false := by rw [beq_eq_false_iff_ne]; omega
  by_cases g2 : 500 < lhs.length
  · have e : decide (1 ≤ lhs.length ∧ lhs.length ≤ 500 ∧ args.length ≤ 500) = false := by rw [decide_eq_false_iff_not]; omega
    rw [e, Bool.false_and, Bool.false_and]
    have d2 : decide (500 < (lhs.length : Int)) = true := by simp; omega
    clear e
    go_enter Tryz.func49, Tryz.ntmps49
    go_wp2
    go_ret
    exact ⟨rfl, unhide B0⟩
  have d2 : decide (500 < (lhs.length : Int)) = false := by simp; omega
  by_cases g3 : 500 < args.length
  · have e : decide (1 ≤ lhs.length ∧ lhs.length ≤ 500 ∧ args.length ≤ 500) = false := by rw [decide_eq_false_iff_not]; omega
    rw [e, Bool.false_and, Bool.false_and]
    have d3 : decide (500 < (args.length : Int)) = true := by simp; omega
    clear e
    go_enter Tryz.func49, Tryz.ntmps49
    go_wp2
    go_ret
    exact ⟨rfl, unhide B0⟩
  have d3 : decide (500 < (args.length : Int)) = false := by simp; omega
  have e : decide (1 ≤ lhs.length ∧ lhs.length ≤ 500 ∧ args.length ≤ 500) = true := by rw [decide_eq_true_iff]; omega
  rw [e, Bool.true_and]
  clear e
  have HL := hide (everyStr_nameOK_ok nameB hName lhs _ _ ((unhide H1).stays RStr_kept (unhide B0)))
  cases hl : lhs.all nameB
  · rw [Bool.false_and]
    rw [hl] at HL
    clear hl
    go_enter Tryz.func49, Tryz.ntmps49
    go_wp2_with fail
    refine (unhide HL).mono ?_
    rintro e w1 ⟨rfl, hb⟩
    obtain ⟨hc1, hf1⟩ := bcell hb
    have hz := hb.size
    have B1 : Hid (Below w.heap.size w w1) := (unhide B0).trans (hb.mono (unhide B0).size)
    try simp only [World.size_alloc] at hz hc1 hf1
    have hza1 : w.heap.size < w1.heap.size := by first | omega | (simp at hz; omega)
    clear hb hz
    go_wp2
    go_ret
    exact ⟨rfl, unhide B1⟩
  rw [Bool.true_and]
  rw [hl] at HL
  clear hl
  by_cases g4 : s.size = 0
  · rw [if_pos g4]
    have d4 := empty_yes s g4
    have d4' := isEmpty_yes s g4
    clear g4
    by_cases g5 : lhs.length = 1
    case neg =>
      have e : decide (lhs.length = 1 ∧ args.length = 0) = false := by rw [decide_eq_false_iff_not]; omega
      rw [e, Bool.false_and]
      have d5 : ((lhs.length : Int) == 1) = false := by rw [beq_eq_false_iff_ne]; omega
      clear e g5
      go_enter Tryz.func49, Tryz.ntmps49
      go_wp2_with fail
      refine (unhide HL).mono ?_
      rintro e w1 ⟨rfl, hb⟩
      obtain ⟨hc1, hf1⟩ := bcell hb
      have hz := hb.size
      have B1 : Hid (Below w.heap.size w w1) := (unhide B0).trans (hb.mono (unhide B0).size)
      try simp only [World.size_alloc] at hz hc1 hf1
      have hza1 : w.heap.size < w1.heap.size := by first | omega | (simp at hz; omega)
      clear hb hz
      go_wp2
      go_ret
      exact ⟨rfl, unhide B1⟩
    have d5 : ((lhs.length : Int) == 1) = true := by rw [beq_iff_eq]; omega
    by_cases g6 : args.length = 0
    case neg =>
      have e : decide (lhs.length = 1 ∧ args.length = 0) = false := by rw [decide_eq_false_iff_not]; omega
      rw [e, Bool.false_and]
      have d6 : ((args.length : Int) == 0) = false := by rw [beq_eq_false_iff_ne]; omega
      clear e g5 g6
      go_enter Tryz.func49, Tryz.ntmps49
      go_wp2_with fail
      refine (unhide HL).mono ?_
      rintro e w1 ⟨rfl, hb⟩
      obtain ⟨hc1, hf1⟩ := bcell hb
      have hz := hb.size
      have B1 : Hid (Below w.heap.size w w1) := (unhide B0).trans (hb.mono (unhide B0).size)
      try simp only [World.size_alloc] at hz hc1 hf1
      have hza1 : w.heap.size < w1.heap.size := by first | omega | (simp at hz; omega)
      clear hb hz
      go_wp2
      go_ret
      exact ⟨rfl, unhide B1⟩
    have e : decide (lhs.length = 1 ∧ args.length = 0) = true := by rw [decide_eq_true_iff]; omega
    rw [e, Bool.true_and]
    have d6 : ((args.length : Int) == 0) = true := by rw [beq_iff_eq]; omega
    clear e g5 g6 g1 g2 g3
    go_enter Tryz.func49, Tryz.ntmps49
    go_wp2_with fail
    refine (unhide HL).mono ?_
    rintro e w1 ⟨rfl, hb⟩
    obtain ⟨hc1, hf1⟩ := bcell hb
    have hz := hb.size
    have B1 : Hid (Below w.heap.size w w1) := (unhide B0).trans (hb.mono (unhide B0).size)
    try simp only [World.size_alloc] at hz hc1 hf1
    have hza1 : w.heap.size < w1.heap.size := by first | omega | (simp at hz; omega)
    clear hb hz
    go_wp2_with fail
    refine (codeOK_ok code _ _ ((unhide H2).stays RItem_kept (unhide B1))).mono ?_
    rintro e w2 ⟨rfl, hb2⟩
    go_wp2
    go_ret
    exact ⟨rfl, (unhide B1).trans (hb2.mono (unhide B1).size)⟩
  · rw [if_neg g4]
    have d4 := empty_no s g4
    have d4' := isEmpty_no s g4
    clear g4 g1 g2 g3
    cases hnm : nameB s
    · rw [Bool.false_and, Bool.false_and]
      go_enter Tryz.func49, Tryz.ntmps49
      go_wp2_with fail
      refine (unhide HL).mono ?_
      rintro e w1 ⟨rfl, hb⟩
      obtain ⟨hc1, hf1⟩ := bcell hb
      have hz := hb.size
      have B1 : Hid (Below w.heap.size w w1) := (unhide B0).trans (hb.mono (unhide B0).size)
      try simp only [World.size_alloc] at hz hc1 hf1
      have hza1 : w.heap.size < w1.heap.size := by first | omega | (simp at hz; omega)
      clear hb hz
      go_wp2_with fail
      refine (nameOK_ok s _ hs).mono ?_
      rintro e w2 ⟨rfl, hb⟩
      obtain ⟨hc2, hf2⟩ := bcell hb
      have hz := hb.size
      have B2 : Hid (Below w.heap.size w w2) := (unhide B1).trans (hb.mono (unhide B1).size)
      try simp only [World.size_alloc] at hz hc2 hf2
      have hza2 : w.heap.size < w2.heap.size := by first | omega | (simp at hz; omega)
      clear hb hz
      rw [hnm]
      go_wp2
      go_ret
      exact ⟨rfl, unhide B2⟩
    rw [Bool.true_and]
    by_cases g5 : code.length = 0
    · have e : decide (code.length = 0) = true := by simpa using g5
      rw [e, Bool.true_and]
      have d5 : ((code.length : Int) == 0) = true := by rw [beq_iff_eq]; omega
      clear e g5
      go_enter Tryz.func49, Tryz.ntmps49
      go_wp2_with fail
      refine (unhide HL).mono ?_
      rintro e w1 ⟨rfl, hb⟩
      obtain ⟨hc1, hf1⟩ := bcell hb
      have hz := hb.size
      have B1 : Hid (Below w.heap.size w w1) := (unhide B0).trans (hb.mono (unhide B0).size)
      try simp only [World.size_alloc] at hz hc1 hf1
      have hza1 : w.heap.size < w1.heap.size := by first | omega | (simp at hz; omega)
      clear hb hz
      go_wp2_with fail
      refine (nameOK_ok s _ hs).mono ?_
      rintro e w2 ⟨rfl, hb⟩
      obtain ⟨hc2, hf2⟩ := bcell hb
      have hz := hb.size
      have B2 : Hid (Below w.heap.size w w2) := (unhide B1).trans (hb.mono (unhide B1).size)
      try simp only [World.size_alloc] at hz hc2 hf2
      have hza2 : w.heap.size < w2.heap.size := by first | omega | (simp at hz; omega)
      clear hb hz
      rw [hnm]
      go_wp2_with fail
      refine (everyItems_codeOK_ok cdB hCode args _ _ ((unhide H3).stays RItems_kept (unhide B2))).mono ?_
      rintro e w3 ⟨rfl, hb3⟩
      go_wp2
      go_ret
      exact ⟨rfl, (unhide B2).trans (hb3.mono (unhide B2).size)⟩
    · have e : decide (code.length = 0) = false := by simpa using g5
      rw [e, Bool.false_and]
      have d5 : ((code.length : Int) == 0) = false := by rw [beq_eq_false_iff_ne]; omega
      clear e g5
      go_enter Tryz.func49, Tryz.ntmps49
      go_wp2_with fail
      refine (unhide HL).mono ?_
      rintro e w1 ⟨rfl, hb⟩
      obtain ⟨hc1, hf1⟩ := bcell hb
      have hz := hb.size
      have B1 : Hid (Below w.heap.size w w1) := (unhide B0).trans (hb.mono (unhide B0).size)
      try simp only [World.size_alloc] at hz hc1 hf1
      have hza1 : w.heap.size < w1.heap.size := by first | omega | (simp at hz; omega)
      clear hb hz
      go_wp2_with fail
      refine (nameOK_ok s _ hs).mono ?_
      rintro e w2 ⟨rfl, hb⟩
      obtain ⟨hc2, hf2⟩ := bcell hb
      have hz := hb.size
      have B2 : Hid (Below w.heap.size w w2) := (unhide B1).trans (hb.mono (unhide B1).size)
      try simp only [World.size_alloc] at hz hc2 hf2
      have hza2 : w.heap.size < w2.heap.size := by first | omega | (simp at hz; omega)
      clear hb hz
      rw [hnm]
      go_wp2
      go_ret
      exact ⟨rfl, unhide B2⟩

theorem hEq (x : DEq) (cs : List Value) (w : World) (h : REq 0 w cs x) : Calls Tryz.prog 49 #[valOfEq cs] w (Ans (.bool (eqB x)) w) := by
  obtain ⟨l, c, a, rfl, h0, h1, h2, h3⟩ := h
  exact equationOK_ok x l c a w h0 h1 h2 h3

end Go.Proofs.YtlgeioedgaajoaaGreatDoor
