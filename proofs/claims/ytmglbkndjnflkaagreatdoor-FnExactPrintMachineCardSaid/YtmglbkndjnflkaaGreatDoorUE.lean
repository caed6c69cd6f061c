import Derived.Test.YtmglbkndjnflkaaGreatDoorMData
import Derived.Test.YtmglbkndjnflkaaGreatDoorItems
import Derived.Test.YtmglbkndjnflkaaGreatDoorFill
import Derived.Deep.QuietTactic
import Derived.BigQuiet
namespace Go.Proofs.YtmglbkndjnflkaaGreatDoor
open Go.RowKit
set_option linter.unusedSimpArgs false
set_option linter.unusedVariables false

/-- The cells of a statement at a place. -/
def StmCells (w : World) (b o : Nat) (s : DStm) (vo vc va : Value) : Prop :=
  w.cell? ⟨b, o, none⟩ = some (.int .i64 s.kind) ∧ w.cell? ⟨b, o + 1, none⟩ = some (.string s.name) ∧ w.cell? ⟨b, o + 2, none⟩ = some (.int .i64 s.at_) ∧ w.cell? ⟨b, o + 3, none⟩ = some vo ∧ w.cell? ⟨b, o + 4, none⟩ = some vc ∧ w.cell? ⟨b, o + 5, none⟩ = some va
/-- Fields that a kind doesn't use are 0 or empty. -/
def unB (s : DStm) : Bool :=
  (decide (s.kind = 1 ∨ s.kind = 4) || decide (s.name.size = 0)) && (decide (s.kind = 2 ∨ s.kind = 3) || decide (s.at_ = 0)) && (decide (s.kind = 1 ∨ s.kind = 2) || decide (s.code.length = 0)) && (decide (s.kind = 3) || decide (s.outs.length + s.args.length = 0))
theorem below_dn (w : World) (n : Nat) : Below w.heap.size w (w.drewN n) := ⟨rfl, rfl, rfl, Nat.le_refl _, fun _ _ => rfl⟩
theorem ret_bl2 {a b : Bool} (h : a = b) : Ending.returned (.bool a) = .returned (.bool b) := by rw [h]

theorem empty_size (s : ByteArray) (h : s.size = 0) : s = ByteArray.empty := ByteArray.ext (Array.eq_empty_of_size_eq_zero h)
set_option maxHeartbeats 4000000 in
theorem unusedEmpty_1 (nm : ByteArray) (atv : Int) (outs : List ByteArray) (code : List DItem) (args : List (List DItem)) (a1 a2 a3 : Option Addr) (n1 n2 n3 c1 c2 c3 : Nat) (e1 : outs.length = n1) (e2 : code.length = n2) (e3 : args.length = n3) (hl1 : n1 ≤ 140737488355328) (hl3 : n3 ≤ 140737488355328) (b o : Nat) (w : World)
    (q0 : w.cell? ⟨b, o, none⟩ = some (.int .i64 1)) (q1 : w.cell? ⟨b, o + 1, none⟩ = some (.string nm)) (q2 : w.cell? ⟨b, o + 2, none⟩ = some (.int .i64 atv)) (q3 : w.cell? ⟨b, o + 3, none⟩ = some (.slice a1 n1 c1)) (q4 : w.cell? ⟨b, o + 4, none⟩ = some (.slice a2 n2 c2)) (q5 : w.cell? ⟨b, o + 5, none⟩ = some (.slice a3 n3 c3)) :
    Calls Tryz.prog 129 #[.pointer (some ⟨b, o, none⟩)] w (Ans (.bool (unB ⟨1, nm, atv, outs, code, args⟩)) w) := by
  by_cases hA : atv = 0
  · have g2 : (atv == 0) = true := by rw [beq_iff_eq]; exact hA
    by_cases hO : n1 + n3 = 0
    · have g4 : ((n1 : Int) + (n3 : Int) == 0) = true := by rw [beq_iff_eq]; omega
      have HU : Hid (unB ⟨1, nm, atv, outs, code, args⟩ = true) := by simp [unB, hide, Hid, e1, e2, e3, hA, hO, ]; try omega
      clear e1 e2 e3
      try clear hN
      try clear hA
      try clear hC
      try clear hO
      go_enter Tryz.func129, Tryz.ntmps129
      go_wp2_with fail
      go_quiet ((fail))
      go_wp2
      go_ret
      exact ⟨ret_bl2 (unhide HU).symm, below_dn _ _⟩
    · have g4 : ((n1 : Int) + (n3 : Int) == 0) = false := by rw [beq_eq_false_iff_ne]; omega
      have HU : Hid (unB ⟨1, nm, atv, outs, code, args⟩ = false) := by simp [unB, hide, Hid, e1, e2, e3, hA, hO]; try omega
      clear e1 e2 e3
      try clear hN
      try clear hA
      try clear hC
      try clear hO
      go_enter Tryz.func129, Tryz.ntmps129
      go_wp2_with fail
      go_quiet ((fail))
      go_wp2
      go_ret
      exact ⟨ret_bl2 (unhide HU).symm, below_dn _ _⟩
  · have g2 : (atv == 0) = false := by rw [beq_eq_false_iff_ne]; exact hA
    have HU : Hid (unB ⟨1, nm, atv, outs, code, args⟩ = false) := by simp [unB, hide, Hid, e1, e2, e3, hA]; try omega
    clear e1 e2 e3
    try clear hN
    try clear hA
    try clear hC
    try clear hO
    go_enter Tryz.func129, Tryz.ntmps129
    go_wp2_with fail
    go_quiet ((fail))
    go_wp2
    go_ret
    exact ⟨ret_bl2 (unhide HU).symm, below_dn _ _⟩

set_option maxHeartbeats 4000000 in
theorem unusedEmpty_2 (nm : ByteArray) (atv : Int) (outs : List ByteArray) (code : List DItem) (args : List (List DItem)) (a1 a2 a3 : Option Addr) (n1 n2 n3 c1 c2 c3 : Nat) (e1 : outs.length = n1) (e2 : code.length = n2) (e3 : args.length = n3) (hl1 : n1 ≤ 140737488355328) (hl3 : n3 ≤ 140737488355328) (b o : Nat) (w : World)
    (q0 : w.cell? ⟨b, o, none⟩ = some (.int .i64 2)) (q1 : w.cell? ⟨b, o + 1, none⟩ = some (.string nm)) (q2 : w.cell? ⟨b, o + 2, none⟩ = some (.int .i64 atv)) (q3 : w.cell? ⟨b, o + 3, none⟩ = some (.slice a1 n1 c1)) (q4 : w.cell? ⟨b, o + 4, none⟩ = some (.slice a2 n2 c2)) (q5 : w.cell? ⟨b, o + 5, none⟩ = some (.slice a3 n3 c3)) :
    Calls Tryz.prog 129 #[.pointer (some ⟨b, o, none⟩)] w (Ans (.bool (unB ⟨2, nm, atv, outs, code, args⟩)) w) := by
  by_cases hN : nm.size = 0
  · have g1 := empty_yes nm hN
    have g1b := isEmpty_yes nm hN
    by_cases hO : n1 + n3 = 0
    · have g4 : ((n1 : Int) + (n3 : Int) == 0) = true := by rw [beq_iff_eq]; omega
      have HU : Hid (unB ⟨2, nm, atv, outs, code, args⟩ = true) := by simp [unB, hide, Hid, e1, e2, e3, hN, hO, ]; try omega
      clear e1 e2 e3
      try clear hN
      try clear hA
      try clear hC
      try clear hO
      go_enter Tryz.func129, Tryz.ntmps129
      go_wp2_with fail
      go_quiet ((fail))
      go_wp2
      go_ret
      exact ⟨ret_bl2 (unhide HU).symm, below_dn _ _⟩
    · have g4 : ((n1 : Int) + (n3 : Int) == 0) = false := by rw [beq_eq_false_iff_ne]; omega
      have HU : Hid (unB ⟨2, nm, atv, outs, code, args⟩ = false) := by simp [unB, hide, Hid, e1, e2, e3, hN, hO]; try omega
      clear e1 e2 e3
      try clear hN
      try clear hA
      try clear hC
      try clear hO
      go_enter Tryz.func129, Tryz.ntmps129
      go_wp2_with fail
      go_quiet ((fail))
      go_wp2
      go_ret
      exact ⟨ret_bl2 (unhide HU).symm, below_dn _ _⟩
  · have g1 := empty_no nm hN
    have g1b := isEmpty_no nm hN
    have HU : Hid (unB ⟨2, nm, atv, outs, code, args⟩ = false) := by simp [unB, hide, Hid, e1, e2, e3, hN]; try omega
    clear e1 e2 e3
    try clear hN
    try clear hA
    try clear hC
    try clear hO
    go_enter Tryz.func129, Tryz.ntmps129
    go_wp2_with fail
    go_quiet ((fail))
    go_wp2
    go_ret
    exact ⟨ret_bl2 (unhide HU).symm, below_dn _ _⟩

set_option maxHeartbeats 4000000 in
theorem unusedEmpty_3 (nm : ByteArray) (atv : Int) (outs : List ByteArray) (code : List DItem) (args : List (List DItem)) (a1 a2 a3 : Option Addr) (n1 n2 n3 c1 c2 c3 : Nat) (e1 : outs.length = n1) (e2 : code.length = n2) (e3 : args.length = n3) (hl1 : n1 ≤ 140737488355328) (hl3 : n3 ≤ 140737488355328) (b o : Nat) (w : World)
    (q0 : w.cell? ⟨b, o, none⟩ = some (.int .i64 3)) (q1 : w.cell? ⟨b, o + 1, none⟩ = some (.string nm)) (q2 : w.cell? ⟨b, o + 2, none⟩ = some (.int .i64 atv)) (q3 : w.cell? ⟨b, o + 3, none⟩ = some (.slice a1 n1 c1)) (q4 : w.cell? ⟨b, o + 4, none⟩ = some (.slice a2 n2 c2)) (q5 : w.cell? ⟨b, o + 5, none⟩ = some (.slice a3 n3 c3)) :
    Calls Tryz.prog 129 #[.pointer (some ⟨b, o, none⟩)] w (Ans (.bool (unB ⟨3, nm, atv, outs, code, args⟩)) w) := by
  by_cases hN : nm.size = 0
  · have g1 := empty_yes nm hN
    have g1b := isEmpty_yes nm hN
    by_cases hC : n2 = 0
    · have g3 : ((n2 : Int) == 0) = true := by rw [beq_iff_eq]; omega
      have HU : Hid (unB ⟨3, nm, atv, outs, code, args⟩ = true) := by simp [unB, hide, Hid, e1, e2, e3, hN, hC, ]; try omega
      clear e1 e2 e3
      try clear hN
      try clear hA
      try clear hC
      try clear hO
      go_enter Tryz.func129, Tryz.ntmps129
      go_wp2_with fail
      go_quiet ((fail))
      go_wp2
      go_ret
      exact ⟨ret_bl2 (unhide HU).symm, below_dn _ _⟩
    · have g3 : ((n2 : Int) == 0) = false := by rw [beq_eq_false_iff_ne]; omega
      have HU : Hid (unB ⟨3, nm, atv, outs, code, args⟩ = false) := by simp [unB, hide, Hid, e1, e2, e3, hN, hC]; try omega
      clear e1 e2 e3
      try clear hN
      try clear hA
      try clear hC
      try clear hO
      go_enter Tryz.func129, Tryz.ntmps129
      go_wp2_with fail
      go_quiet ((fail))
      go_wp2
      go_ret
      exact ⟨ret_bl2 (unhide HU).symm, below_dn _ _⟩
  · have g1 := empty_no nm hN
    have g1b := isEmpty_no nm hN
    have HU : Hid (unB ⟨3, nm, atv, outs, code, args⟩ = false) := by simp [unB, hide, Hid, e1, e2, e3, hN]; try omega
    clear e1 e2 e3
    try clear hN
    try clear hA
    try clear hC
    try clear hO
    go_enter Tryz.func129, Tryz.ntmps129
    go_wp2_with fail
    go_quiet ((fail))
    go_wp2
    go_ret
    exact ⟨ret_bl2 (unhide HU).symm, below_dn _ _⟩

set_option maxHeartbeats 4000000 in
theorem unusedEmpty_4 (nm : ByteArray) (atv : Int) (outs : List ByteArray) (code : List DItem) (args : List (List DItem)) (a1 a2 a3 : Option Addr) (n1 n2 n3 c1 c2 c3 : Nat) (e1 : outs.length = n1) (e2 : code.length = n2) (e3 : args.length = n3) (hl1 : n1 ≤ 140737488355328) (hl3 : n3 ≤ 140737488355328) (b o : Nat) (w : World)
    (q0 : w.cell? ⟨b, o, none⟩ = some (.int .i64 4)) (q1 : w.cell? ⟨b, o + 1, none⟩ = some (.string nm)) (q2 : w.cell? ⟨b, o + 2, none⟩ = some (.int .i64 atv)) (q3 : w.cell? ⟨b, o + 3, none⟩ = some (.slice a1 n1 c1)) (q4 : w.cell? ⟨b, o + 4, none⟩ = some (.slice a2 n2 c2)) (q5 : w.cell? ⟨b, o + 5, none⟩ = some (.slice a3 n3 c3)) :
    Calls Tryz.prog 129 #[.pointer (some ⟨b, o, none⟩)] w (Ans (.bool (unB ⟨4, nm, atv, outs, code, args⟩)) w) := by
  by_cases hA : atv = 0
  · have g2 : (atv == 0) = true := by rw [beq_iff_eq]; exact hA
    by_cases hC : n2 = 0
    · have g3 : ((n2 : Int) == 0) = true := by rw [beq_iff_eq]; omega
      by_cases hO : n1 + n3 = 0
      · have g4 : ((n1 : Int) + (n3 : Int) == 0) = true := by rw [beq_iff_eq]; omega
        have HU : Hid (unB ⟨4, nm, atv, outs, code, args⟩ = true) := by simp [unB, hide, Hid, e1, e2, e3, hA, hC, hO, ]; try omega
        clear e1 e2 e3
        try clear hN
        try clear hA
        try clear hC
        try clear hO
        go_enter Tryz.func129, Tryz.ntmps129
        go_wp2_with fail
        go_quiet ((fail))
        go_wp2
        go_ret
        exact ⟨ret_bl2 (unhide HU).symm, below_dn _ _⟩
      · have g4 : ((n1 : Int) + (n3 : Int) == 0) = false := by rw [beq_eq_false_iff_ne]; omega
        have HU : Hid (unB ⟨4, nm, atv, outs, code, args⟩ = false) := by simp [unB, hide, Hid, e1, e2, e3, hA, hC, hO]; try omega
        clear e1 e2 e3
        try clear hN
        try clear hA
        try clear hC
        try clear hO
        go_enter Tryz.func129, Tryz.ntmps129
        go_wp2_with fail
        go_quiet ((fail))
        go_wp2
        go_ret
        exact ⟨ret_bl2 (unhide HU).symm, below_dn _ _⟩
    · have g3 : ((n2 : Int) == 0) = false := by rw [beq_eq_false_iff_ne]; omega
      have HU : Hid (unB ⟨4, nm, atv, outs, code, args⟩ = false) := by simp [unB, hide, Hid, e1, e2, e3, hA, hC]; try omega
      clear e1 e2 e3
      try clear hN
      try clear hA
      try clear hC
      try clear hO
      go_enter Tryz.func129, Tryz.ntmps129
      go_wp2_with fail
      go_quiet ((fail))
      go_wp2
      go_ret
      exact ⟨ret_bl2 (unhide HU).symm, below_dn _ _⟩
  · have g2 : (atv == 0) = false := by rw [beq_eq_false_iff_ne]; exact hA
    have HU : Hid (unB ⟨4, nm, atv, outs, code, args⟩ = false) := by simp [unB, hide, Hid, e1, e2, e3, hA]; try omega
    clear e1 e2 e3
    try clear hN
    try clear hA
    try clear hC
    try clear hO
    go_enter Tryz.func129, Tryz.ntmps129
    go_wp2_with fail
    go_quiet ((fail))
    go_wp2
    go_ret
    exact ⟨ret_bl2 (unhide HU).symm, below_dn _ _⟩

set_option maxHeartbeats 4000000 in
theorem unusedEmpty_0 (kd : Int) (hkd1 : kd ≠ 1) (hkd2 : kd ≠ 2) (hkd3 : kd ≠ 3) (hkd4 : kd ≠ 4) (nm : ByteArray) (atv : Int) (outs : List ByteArray) (code : List DItem) (args : List (List DItem)) (a1 a2 a3 : Option Addr) (n1 n2 n3 c1 c2 c3 : Nat) (e1 : outs.length = n1) (e2 : code.length = n2) (e3 : args.length = n3) (hl1 : n1 ≤ 140737488355328) (hl3 : n3 ≤ 140737488355328) (b o : Nat) (w : World)
    (q0 : w.cell? ⟨b, o, none⟩ = some (.int .i64 kd)) (q1 : w.cell? ⟨b, o + 1, none⟩ = some (.string nm)) (q2 : w.cell? ⟨b, o + 2, none⟩ = some (.int .i64 atv)) (q3 : w.cell? ⟨b, o + 3, none⟩ = some (.slice a1 n1 c1)) (q4 : w.cell? ⟨b, o + 4, none⟩ = some (.slice a2 n2 c2)) (q5 : w.cell? ⟨b, o + 5, none⟩ = some (.slice a3 n3 c3)) :
    Calls Tryz.prog 129 #[.pointer (some ⟨b, o, none⟩)] w (Ans (.bool (unB ⟨kd, nm, atv, outs, code, args⟩)) w) := by
  have k1 : (kd == 1) = false := by rw [beq_eq_false_iff_ne]; exact hkd1
  have k2 : (kd == 2) = false := by rw [beq_eq_false_iff_ne]; exact hkd2
  have k3 : (kd == 3) = false := by rw [beq_eq_false_iff_ne]; exact hkd3
  have k4 : (kd == 4) = false := by rw [beq_eq_false_iff_ne]; exact hkd4
  by_cases hN : nm.size = 0
  · have g1 := empty_yes nm hN
    have g1b := isEmpty_yes nm hN
    by_cases hA : atv = 0
    · have g2 : (atv == 0) = true := by rw [beq_iff_eq]; exact hA
      by_cases hC : n2 = 0
      · have g3 : ((n2 : Int) == 0) = true := by rw [beq_iff_eq]; omega
        by_cases hO : n1 + n3 = 0
        · have g4 : ((n1 : Int) + (n3 : Int) == 0) = true := by rw [beq_iff_eq]; omega
          have HU : Hid (unB ⟨kd, nm, atv, outs, code, args⟩ = true) := by simp [unB, hide, Hid, e1, e2, e3, hN, hA, hC, hO, hkd1, hkd2, hkd3, hkd4]; try omega
          clear e1 e2 e3
          try clear hN
          try clear hA
          try clear hC
          try clear hO
          go_enter Tryz.func129, Tryz.ntmps129
          go_wp2_with fail
          go_quiet ((fail))
          go_wp2
          go_ret
          exact ⟨ret_bl2 (unhide HU).symm, below_dn _ _⟩
        · have g4 : ((n1 : Int) + (n3 : Int) == 0) = false := by rw [beq_eq_false_iff_ne]; omega
          have HU : Hid (unB ⟨kd, nm, atv, outs, code, args⟩ = false) := by simp [unB, hide, Hid, e1, e2, e3, hN, hA, hC, hkd1, hkd2, hkd3, hkd4, hO]; try omega
          clear e1 e2 e3
          try clear hN
          try clear hA
          try clear hC
          try clear hO
          go_enter Tryz.func129, Tryz.ntmps129
          go_wp2_with fail
          go_quiet ((fail))
          go_wp2
          go_ret
          exact ⟨ret_bl2 (unhide HU).symm, below_dn _ _⟩
      · have g3 : ((n2 : Int) == 0) = false := by rw [beq_eq_false_iff_ne]; omega
        have HU : Hid (unB ⟨kd, nm, atv, outs, code, args⟩ = false) := by simp [unB, hide, Hid, e1, e2, e3, hN, hA, hkd1, hkd2, hkd3, hkd4, hC]; try omega
        clear e1 e2 e3
        try clear hN
        try clear hA
        try clear hC
        try clear hO
        go_enter Tryz.func129, Tryz.ntmps129
        go_wp2_with fail
        go_quiet ((fail))
        go_wp2
        go_ret
        exact ⟨ret_bl2 (unhide HU).symm, below_dn _ _⟩
    · have g2 : (atv == 0) = false := by rw [beq_eq_false_iff_ne]; exact hA
      have HU : Hid (unB ⟨kd, nm, atv, outs, code, args⟩ = false) := by simp [unB, hide, Hid, e1, e2, e3, hN, hkd1, hkd2, hkd3, hkd4, hA]; try omega
      clear e1 e2 e3
      try clear hN
      try clear hA
      try clear hC
      try clear hO
      go_enter Tryz.func129, Tryz.ntmps129
      go_wp2_with fail
      go_quiet ((fail))
      go_wp2
      go_ret
      exact ⟨ret_bl2 (unhide HU).symm, below_dn _ _⟩
  · have g1 := empty_no nm hN
    have g1b := isEmpty_no nm hN
    have HU : Hid (unB ⟨kd, nm, atv, outs, code, args⟩ = false) := by simp [unB, hide, Hid, e1, e2, e3, hkd1, hkd2, hkd3, hkd4, hN]; try omega
    clear e1 e2 e3
    try clear hN
    try clear hA
    try clear hC
    try clear hO
    go_enter Tryz.func129, Tryz.ntmps129
    go_wp2_with fail
    go_quiet ((fail))
    go_wp2
    go_ret
    exact ⟨ret_bl2 (unhide HU).symm, below_dn _ _⟩

end Go.Proofs.YtmglbkndjnflkaaGreatDoor
