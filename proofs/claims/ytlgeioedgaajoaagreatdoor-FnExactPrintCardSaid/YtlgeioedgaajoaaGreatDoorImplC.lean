import Derived.Test.YtlgeioedgaajoaaGreatDoorImplB
namespace Go.Proofs.YtlgeioedgaajoaaGreatDoor
open Go.RowKit
set_option linter.unusedSimpArgs false
set_option linter.unusedVariables false

set_option maxHeartbeats 2000000 in
theorem nodeOK_ok (x : DNode) (a1 a2 a3 a4 : Value) (w : World) (hs : Len x.name.size) (h1 : SlAt 3 48 RVar 0 w a1 x.ins) (h2 : SlAt 3 48 RVar 0 w a2 x.outs) (h3 : SlAt 3 48 RVar 0 w a3 x.vars) (h4 : SlAt 4 88 REq 0 w a4 x.eqs) :
    Calls Tryz.prog 30 #[.agg #[.string x.name, a1, a2, a3, a4]] w (Ans (.bool (nodeB x)) w) := by
  obtain ⟨s, ins, outs, vars, eqs⟩ := x
  simp only [nodeB] at *
  have n1 := h1.len
  have n2 := h2.len
  have n3 := h3.len
  have n4 := h4.len
  obtain ⟨b1, c1, rfl⟩ := h1.shape
  obtain ⟨b2, c2, rfl⟩ := h2.shape
  obtain ⟨b3, c3, rfl⟩ := h3.shape
  obtain ⟨b4, c4, rfl⟩ := h4.shape
  have H1 := hide h1
  have H2 := hide h2
  have H3 := hide h3
  have H4 := hide h4
  clear h1 h2 h3 h4
  have B0 := hide ((Below.refl w.heap.size w).alloc (Nat.le_refl _) (.cells #[.string s, .slice b1 ins.length c1, .slice b2 outs.length c2, .slice b3 vars.length c3, .slice b4 eqs.length c4] 38))
  by_cases g1 : outs.length = 0
  · have d1 : ((outs.length : Int) == 0) = true := by rw [beq_iff_eq]; omega
    have e : decide (1 ≤ outs.length ∧ ins.length + outs.length + vars.length ≤ 500 ∧ 1 ≤ eqs.length ∧ eqs.length ≤ 500) = false := by rw [decide_eq_false_iff_not]; omega
    rw [e]
    simp only [Bool.false_and]
    clear e
    clear g1
    go_enter Tryz.func30, Tryz.ntmps30
    go_wp2
    go_ret
    exact ⟨rfl, unhide B0⟩
  have d1 : ((outs.length : Int) == 0) = false := by rw [beq_eq_false_iff_ne]; omega
  by_cases g2 : 500 < ins.length + outs.length + vars.length
  · have d2 : decide (500 < (ins.length : Int) + (outs.length : Int) + (vars.length : Int)) = true := by rw [decide_eq_true_iff]; omega
    have e : decide (1 ≤ outs.length ∧ ins.length + outs.length + vars.length ≤ 500 ∧ 1 ≤ eqs.length ∧ eqs.length ≤ 500) = false := by rw [decide_eq_false_iff_not]; omega
    rw [e]
    simp only [Bool.false_and]
    clear e
    go_enter Tryz.func30, Tryz.ntmps30
    go_wp2
    go_ret
    exact ⟨rfl, unhide B0⟩
  have d2 : decide (500 < (ins.length : Int) + (outs.length : Int) + (vars.length : Int)) = false := by rw [decide_eq_false_iff_not]; omega
  by_cases g3 : eqs.length = 0
  · have d3 : ((eqs.length : Int) == 0) = true := by rw [beq_iff_eq]; omega
    have e : decide (1 ≤ outs.length ∧ ins.length + outs.length + vars.length ≤ 500 ∧ 1 ≤ eqs.length ∧ eqs.length ≤ 500) = false := by rw [decide_eq_false_iff_not]; omega
    rw [e]
    simp only [Bool.false_and]
    clear e
    clear g3
    go_enter Tryz.func30, Tryz.ntmps30
    go_wp2
    go_ret
    exact ⟨rfl, unhide B0⟩
  have d3 : ((eqs.length : Int) == 0) = false := by rw [beq_eq_false_iff_ne]; omega
  by_cases g4 : 500 < eqs.length
  · have d4 : decide (500 < (eqs.length : Int)) = true := by rw [decide_eq_true_iff]; omega
    have e : decide (1 ≤ outs.length ∧ ins.length + outs.length + vars.length ≤ 500 ∧ 1 ≤ eqs.length ∧ eqs.length ≤ 500) = false := by rw [decide_eq_false_iff_not]; omega
    rw [e]
    simp only [Bool.false_and]
    clear e
    go_enter Tryz.func30, Tryz.ntmps30
    go_wp2
    go_ret
    exact ⟨rfl, unhide B0⟩
  have d4 : decide (500 < (eqs.length : Int)) = false := by rw [decide_eq_false_iff_not]; omega
  have e : decide (1 ≤ outs.length ∧ ins.length + outs.length + vars.length ≤ 500 ∧ 1 ≤ eqs.length ∧ eqs.length ≤ 500) = true := by rw [decide_eq_true_iff]; omega
  rw [e, Bool.true_and]
  clear e g1 g3
  have HN := hide (fun w => nameOK_ok s w hs)
  have HE1 := hide (fun w' (h : Below w.heap.size w w') => everyVar_portOK_ok portB hPort ins _ w' ((unhide H1).stays RVar_kept h))
  have HE2 := hide (fun w' (h : Below w.heap.size w w') => everyVar_portOK_ok portB hPort outs _ w' ((unhide H2).stays RVar_kept h))
  have HE3 := hide (fun w' (h : Below w.heap.size w w') => everyVar_varOK_ok varB hVar vars _ w' ((unhide H3).stays RVar_kept h))
  have HE4 := hide (fun w' (h : Below w.heap.size w w') => everyEq_equationOK_ok eqB hEq eqs _ w' ((unhide H4).stays REq_kept h))
  clear H1 H2 H3 H4
  generalize nameB s = t0 at *
  generalize ins.all portB = t1 at *
  generalize outs.all portB = t2 at *
  generalize vars.all varB = t3 at *
  generalize eqs.all eqB = t4 at *
  cases t0
  · go_enter Tryz.func30, Tryz.ntmps30
    go_wp2_with fail
    refine (unhide HN _).mono ?_
    rintro e w1 ⟨rfl, hb⟩
    obtain ⟨hc1, hf1⟩ := bcell hb
    have hz := hb.size
    have B1 : Hid (Below w.heap.size w w1) := (unhide B0).trans (hb.mono (unhide B0).size)
    try simp only [World.size_alloc] at hz hc1 hf1
    have hza1 : w.heap.size < w1.heap.size := by first | omega | (simp at hz; omega)
    clear hb hz
    go_wp2
    go_ret
    exact ⟨ret_bool (by simp), unhide B1⟩
  cases t1
  · go_enter Tryz.func30, Tryz.ntmps30
    go_wp2_with fail
    refine (unhide HN _).mono ?_
    rintro e w1 ⟨rfl, hb⟩
    obtain ⟨hc1, hf1⟩ := bcell hb
    have hz := hb.size
    have B1 : Hid (Below w.heap.size w w1) := (unhide B0).trans (hb.mono (unhide B0).size)
    try simp only [World.size_alloc] at hz hc1 hf1
    have hza1 : w.heap.size < w1.heap.size := by first | omega | (simp at hz; omega)
    clear hb hz
    go_wp2_with fail
    refine (unhide HE1 _ (unhide B1)).mono ?_
    rintro e w2 ⟨rfl, hb⟩
    obtain ⟨hc2, hf2⟩ := bcell hb
    have hz := hb.size
    have B2 : Hid (Below w.heap.size w w2) := (unhide B1).trans (hb.mono (unhide B1).size)
    try simp only [World.size_alloc] at hz hc2 hf2
    have hza2 : w.heap.size < w2.heap.size := by first | omega | (simp at hz; omega)
    clear hb hz
    go_wp2
    go_ret
    exact ⟨ret_bool (by simp), unhide B2⟩
  cases t2
  · go_enter Tryz.func30, Tryz.ntmps30
    go_wp2_with fail
    refine (unhide HN _).mono ?_
    rintro e w1 ⟨rfl, hb⟩
    obtain ⟨hc1, hf1⟩ := bcell hb
    have hz := hb.size
    have B1 : Hid (Below w.heap.size w w1) := (unhide B0).trans (hb.mono (unhide B0).size)
    try simp only [World.size_alloc] at hz hc1 hf1
    have hza1 : w.heap.size < w1.heap.size := by first | omega | (simp at hz; omega)
    clear hb hz
    go_wp2_with fail
    refine (unhide HE1 _ (unhide B1)).mono ?_
    rintro e w2 ⟨rfl, hb⟩
    obtain ⟨hc2, hf2⟩ := bcell hb
    have hz := hb.size
    have B2 : Hid (Below w.heap.size w w2) := (unhide B1).trans (hb.mono (unhide B1).size)
    try simp only [World.size_alloc] at hz hc2 hf2
    have hza2 : w.heap.size < w2.heap.size := by first | omega | (simp at hz; omega)
    clear hb hz
    go_wp2_with fail
    refine (unhide HE2 _ (unhide B2)).mono ?_
    rintro e w3 ⟨rfl, hb⟩
    obtain ⟨hc3, hf3⟩ := bcell hb
    have hz := hb.size
    have B3 : Hid (Below w.heap.size w w3) := (unhide B2).trans (hb.mono (unhide B2).size)
    try simp only [World.size_alloc] at hz hc3 hf3
    have hza3 : w.heap.size < w3.heap.size := by first | omega | (simp at hz; omega)
    clear hb hz
    go_wp2
    go_ret
    exact ⟨ret_bool (by simp), unhide B3⟩
  cases t3
  · go_enter Tryz.func30, Tryz.ntmps30
    go_wp2_with fail
    refine (unhide HN _).mono ?_
    rintro e w1 ⟨rfl, hb⟩
    obtain ⟨hc1, hf1⟩ := bcell hb
    have hz := hb.size
    have B1 : Hid (Below w.heap.size w w1) := (unhide B0).trans (hb.mono (unhide B0).size)
    try simp only [World.size_alloc] at hz hc1 hf1
    have hza1 : w.heap.size < w1.heap.size := by first | omega | (simp at hz; omega)
    clear hb hz
    go_wp2_with fail
    refine (unhide HE1 _ (unhide B1)).mono ?_
    rintro e w2 ⟨rfl, hb⟩
    obtain ⟨hc2, hf2⟩ := bcell hb
    have hz := hb.size
    have B2 : Hid (Below w.heap.size w w2) := (unhide B1).trans (hb.mono (unhide B1).size)
    try simp only [World.size_alloc] at hz hc2 hf2
    have hza2 : w.heap.size < w2.heap.size := by first | omega | (simp at hz; omega)
    clear hb hz
    go_wp2_with fail
    refine (unhide HE2 _ (unhide B2)).mono ?_
    rintro e w3 ⟨rfl, hb⟩
    obtain ⟨hc3, hf3⟩ := bcell hb
    have hz := hb.size
    have B3 : Hid (Below w.heap.size w w3) := (unhide B2).trans (hb.mono (unhide B2).size)
    try simp only [World.size_alloc] at hz hc3 hf3
    have hza3 : w.heap.size < w3.heap.size := by first | omega | (simp at hz; omega)
    clear hb hz
    go_wp2_with fail
    refine (unhide HE3 _ (unhide B3)).mono ?_
    rintro e w4 ⟨rfl, hb⟩
    obtain ⟨hc4, hf4⟩ := bcell hb
    have hz := hb.size
    have B4 : Hid (Below w.heap.size w w4) := (unhide B3).trans (hb.mono (unhide B3).size)
    try simp only [World.size_alloc] at hz hc4 hf4
    have hza4 : w.heap.size < w4.heap.size := by first | omega | (simp at hz; omega)
    clear hb hz
    go_wp2
    go_ret
    exact ⟨ret_bool (by simp), unhide B4⟩
  go_enter Tryz.func30, Tryz.ntmps30
  go_wp2_with fail
  refine (unhide HN _).mono ?_
  rintro e w1 ⟨rfl, hb⟩
  obtain ⟨hc1, hf1⟩ := bcell hb
  have hz := hb.size
  have B1 : Hid (Below w.heap.size w w1) := (unhide B0).trans (hb.mono (unhide B0).size)
  try simp only [World.size_alloc] at hz hc1 hf1
  have hza1 : w.heap.size < w1.heap.size := by first | omega | (simp at hz; omega)
  clear hb hz
  go_wp2_with fail
  refine (unhide HE1 _ (unhide B1)).mono ?_
  rintro e w2 ⟨rfl, hb⟩
  obtain ⟨hc2, hf2⟩ := bcell hb
  have hz := hb.size
  have B2 : Hid (Below w.heap.size w w2) := (unhide B1).trans (hb.mono (unhide B1).size)
  try simp only [World.size_alloc] at hz hc2 hf2
  have hza2 : w.heap.size < w2.heap.size := by first | omega | (simp at hz; omega)
  clear hb hz
  go_wp2_with fail
  refine (unhide HE2 _ (unhide B2)).mono ?_
  rintro e w3 ⟨rfl, hb⟩
  obtain ⟨hc3, hf3⟩ := bcell hb
  have hz := hb.size
  have B3 : Hid (Below w.heap.size w w3) := (unhide B2).trans (hb.mono (unhide B2).size)
  try simp only [World.size_alloc] at hz hc3 hf3
  have hza3 : w.heap.size < w3.heap.size := by first | omega | (simp at hz; omega)
  clear hb hz
  go_wp2_with fail
  refine (unhide HE3 _ (unhide B3)).mono ?_
  rintro e w4 ⟨rfl, hb⟩
  obtain ⟨hc4, hf4⟩ := bcell hb
  have hz := hb.size
  have B4 : Hid (Below w.heap.size w w4) := (unhide B3).trans (hb.mono (unhide B3).size)
  try simp only [World.size_alloc] at hz hc4 hf4
  have hza4 : w.heap.size < w4.heap.size := by first | omega | (simp at hz; omega)
  clear hb hz
  go_wp2_with fail
  refine (unhide HE4 _ (unhide B4)).mono ?_
  rintro e w5 ⟨rfl, hb⟩
  obtain ⟨hc5, hf5⟩ := bcell hb
  have hz := hb.size
  have B5 : Hid (Below w.heap.size w w5) := (unhide B4).trans (hb.mono (unhide B4).size)
  try simp only [World.size_alloc] at hz hc5 hf5
  have hza5 : w.heap.size < w5.heap.size := by first | omega | (simp at hz; omega)
  clear hb hz
  go_wp2
  go_ret
  exact ⟨ret_bool (by simp), unhide B5⟩

theorem hNode (x : DNode) (cs : List Value) (w : World) (h : RNode 0 w cs x) : Calls Tryz.prog 30 #[valOfNode cs] w (Ans (.bool (nodeB x)) w) := by
  obtain ⟨i, o, v, e, rfl, h0, h1, h2, h3, h4⟩ := h
  exact nodeOK_ok x i o v e w h0 h1 h2 h3 h4

set_option maxHeartbeats 400000 in
theorem implShape_ok (ns : List DNode) (v : Value) (w : World) (h1 : SlAt 5 112 RNode 0 w v ns) :
    Calls Tryz.prog 15 #[.agg #[v]] w (Ans (.bool (shapeB ns)) w) := by
  have n1 := h1.len
  obtain ⟨b1, c1, rfl⟩ := h1.shape
  have H1 := hide h1
  clear h1
  have B0 := hide ((Below.refl w.heap.size w).alloc (Nat.le_refl _) (.cells #[.slice b1 ns.length c1] 29))
  simp only [shapeB]
  by_cases g1 : 1 ≤ ns.length
  case neg =>
    have e : decide (1 ≤ ns.length ∧ ns.length ≤ 200) = false := by rw [decide_eq_false_iff_not]; omega
    rw [e, Bool.false_and]
    have d1 : decide (1 ≤ (ns.length : Int)) = false := by rw [decide_eq_false_iff_not]; omega
    clear e
    go_enter Tryz.func15, Tryz.ntmps15
    go_wp2
    go_ret
    exact ⟨rfl, unhide B0⟩
  have d1 : decide (1 ≤ (ns.length : Int)) = true := by rw [decide_eq_true_iff]; omega
  by_cases g2 : ns.length ≤ 200
  case neg =>
    have e : decide (1 ≤ ns.length ∧ ns.length ≤ 200) = false := by rw [decide_eq_false_iff_not]; omega
    rw [e, Bool.false_and]
    have d2 : decide ((ns.length : Int) ≤ 200) = false := by rw [decide_eq_false_iff_not]; omega
    clear e
    go_enter Tryz.func15, Tryz.ntmps15
    go_wp2
    go_ret
    exact ⟨rfl, unhide B0⟩
  have d2 : decide ((ns.length : Int) ≤ 200) = true := by rw [decide_eq_true_iff]; omega
  have e : decide (1 ≤ ns.length ∧ ns.length ≤ 200) = true := by rw [decide_eq_true_iff]; omega
  rw [e, Bool.true_and]
  clear e
  go_enter Tryz.func15, Tryz.ntmps15
  go_wp2_with fail
  refine (everyNode_nodeOK_ok nodeB hNode ns _ _ ((unhide H1).stays RNode_kept (unhide B0))).mono ?_
  rintro e w1 ⟨rfl, hb⟩
  go_wp2
  go_ret
  exact ⟨rfl, (unhide B0).trans (hb.mono (unhide B0).size)⟩

end Go.Proofs.YtlgeioedgaajoaaGreatDoor
