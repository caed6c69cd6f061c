import Derived.Test.YtmglbkndjnflkaaGreatDoorImplName
namespace Go.Proofs.YtmglbkndjnflkaaGreatDoor
open Go.RowKit
set_option linter.unusedSimpArgs false
set_option linter.unusedVariables false

def arI (op : Int) : Int := if (1 ≤ op ∧ op ≤ 3) ∨ op = 25 then 0 else if op = 4 ∨ op = 5 ∨ op = 21 ∨ op = 22 ∨ op = 23 then 1 else if (6 ≤ op ∧ op ≤ 19) ∨ op = 24 then 2 else if op = 20 then 3 else -1
def ocI (op : Int) : Int := if op = 1 ∨ op = 2 ∨ op = 3 ∨ op = 25 then 0 else if op = 4 ∨ op = 5 ∨ op = 21 ∨ op = 22 ∨ op = 23 then 1 else if op = 20 then 3 else 2
def loI (op : Int) : Int := if op = 21 then -2147483647 else 0
def hiI (op : Int) : Int := if op = 1 ∨ op = 21 then 2147483647 else if op = 2 ∨ op = 22 ∨ op = 23 then 1 else 0
def namedB (op : Int) : Bool := decide (op = 3 ∨ op = 23 ∨ op = 24)

theorem ret_int {a b : Int} (h : a = b) : Ending.returned (.int .i64 a) = .returned (.int .i64 b) := by rw [h]
theorem ret_int2 {a b c d : Int} (h : a = b) (g : c = d) : Ending.returned (.tuple #[.int .i64 a, .int .i64 c]) = .returned (.tuple #[.int .i64 b, .int .i64 d]) := by rw [h, g]

theorem arI_bd (op : Int) : -1 ≤ arI op ∧ arI op ≤ 3 := by unfold arI; split <;> (try split) <;> (try split) <;> (try split) <;> omega
theorem ocI_bd (op : Int) : 0 ≤ ocI op ∧ ocI op ≤ 3 := by unfold ocI; split <;> (try split) <;> (try split) <;> omega

set_option maxHeartbeats 1000000 in
theorem l1Arity_ok (op : Int) (w : World) (h : I64 op) :
    Calls Tryz.prog 127 #[.int .i64 op] w fun e w' => e = .returned (.int .i64 (arI op)) ∧ w' = w := by
  unfold I64 at h
  go_enter Tryz.func127, Tryz.ntmps127
  go_wp2
  all_goals
    go_ret
    refine ⟨ret_int ?_, rfl⟩
    simp_all [arI]
    try omega

set_option maxHeartbeats 1000000 in
theorem operandCount_ok (op : Int) (w : World) :
    Calls Tryz.prog 145 #[.int .i64 op] w fun e w' => e = .returned (.int .i64 (ocI op)) ∧ w' = w := by
  go_enter Tryz.func145, Tryz.ntmps145
  go_wp2
  all_goals
    go_ret
    refine ⟨ret_int ?_, rfl⟩
    simp_all [ocI]
    try omega

set_option maxHeartbeats 1000000 in
theorem valueRange_ok (op : Int) (w : World) :
    Calls Tryz.prog 146 #[.int .i64 op] w fun e w' => e = .returned (.tuple #[.int .i64 (loI op), .int .i64 (hiI op)]) ∧ w' = w := by
  go_enter Tryz.func146, Tryz.ntmps146
  go_wp2
  all_goals
    go_ret2
    refine ⟨ret_int2 ?_ ?_, rfl⟩
    all_goals
      simp_all [loI, hiI]
      try omega

end Go.Proofs.YtmglbkndjnflkaaGreatDoor
namespace Go.Proofs.YtmglbkndjnflkaaGreatDoor
open Go.RowKit
set_option linter.unusedSimpArgs false
set_option linter.unusedVariables false

def nmB (t : DItem) : Bool := if t.op = 3 ∨ t.op = 23 ∨ t.op = 24 then nameB t.name else decide (t.name.size = 0)
def rgB (t : DItem) : Bool := decide (loI t.op ≤ t.val ∧ t.val ≤ hiI t.op)
def sItB (t : DItem) : Bool := nmB t && (decide (t.op = 25) || rgB t)
def itB (t : DItem) : Bool := decide (1 ≤ t.op ∧ t.op ≤ 24) && rgB t && nmB t

theorem nameB_empty (s : ByteArray) (h : s.size = 0) : nameB s = false := by
  simp [nameB, plainB, freshB, h]

theorem isEmpty_yes (s : ByteArray) (h : s.size = 0) : s.toList.isEmpty = true := by
  have e : s.data.toList = [] := List.eq_nil_of_length_eq_zero (by rw [Array.length_toList]; exact h)
  rw [ByteArray.toList_eq, e]
  rfl
theorem isEmpty_no (s : ByteArray) (h : s.size ≠ 0) : s.toList.isEmpty = false := by
  cases hh : s.toList.isEmpty with
  | false => rfl
  | true =>
    rw [List.isEmpty_iff, ByteArray.toList_eq] at hh
    have := congrArg List.length hh
    rw [Array.length_toList] at this
    exact absurd this h

set_option maxHeartbeats 1000000 in
theorem itemNameOK_ok (t : DItem) (w : World) (hs : Len t.name.size) :
    Calls Tryz.prog 147 #[.agg #[.int .i64 t.op, .int .i64 t.val, .string t.name]] w (Ans (.bool (nmB t)) w) := by
  obtain ⟨op, val, s⟩ := t
  simp only at hs
  by_cases hn : op = 3 ∨ op = 23 ∨ op = 24
  · have e : nmB ⟨op, val, s⟩ = nameB s := by simp only [nmB]; rw [if_pos hn]
    rw [e]
    clear e
    rcases hn with rfl | rfl | rfl
    all_goals
      go_enter Tryz.func147, Tryz.ntmps147
      go_wp2_with fail
      refine (nameOK_ok s _ hs).mono ?_
      rintro e w1 ⟨rfl, hb⟩
      go_wp2
      go_ret
      exact ⟨rfl, ((Below.refl _ _).alloc (Nat.le_refl _) _).trans (hb.mono (by simp))⟩
  · have e : nmB ⟨op, val, s⟩ = s.toList.isEmpty := by
      simp only [nmB]
      rw [if_neg hn]
      by_cases h0 : s.size = 0
      · rw [isEmpty_yes s h0]; simpa using h0
      · rw [isEmpty_no s h0]; simpa using h0
    rw [e]
    clear e
    have d1 : (op == 3) = false := by rw [beq_eq_false_iff_ne]; omega
    have d2 : (op == 23) = false := by rw [beq_eq_false_iff_ne]; omega
    have d3 : (op == 24) = false := by rw [beq_eq_false_iff_ne]; omega
    clear hn
    go_enter Tryz.func147, Tryz.ntmps147
    go_wp2
    go_ret
    exact ⟨rfl, (Below.refl _ _).alloc (Nat.le_refl _) _⟩

set_option maxHeartbeats 1000000 in
theorem itemOK_ok (t : DItem) (w : World) (hs : Len t.name.size) :
    Calls Tryz.prog 144 #[.agg #[.int .i64 t.op, .int .i64 t.val, .string t.name]] w (Ans (.bool (itB t)) w) := by
  have HI := hide (fun w => itemNameOK_ok t w hs)
  have HE : Hid (itB t = (decide (1 ≤ t.op ∧ t.op ≤ 24) && rgB t && nmB t)) := rfl
  have HR : Hid (rgB t = decide (loI t.op ≤ t.val ∧ t.val ≤ hiI t.op)) := rfl
  generalize itB t = res at *
  generalize nmB t = nm at *
  generalize rgB t = rg at *
  obtain ⟨op, val, s⟩ := t
  simp only at hs
  by_cases h1 : op < 1
  · have d1 : decide (op < 1) = true := by simpa using h1
    have e : res = false := by rw [unhide HE]; simp; intro; omega
    subst e
    go_enter Tryz.func144, Tryz.ntmps144
    go_wp2
    go_ret
    exact ⟨rfl, (Below.refl _ _).alloc (Nat.le_refl _) _⟩
  have d1 : decide (op < 1) = false := by simpa using h1
  by_cases h2 : 24 < op
  · have d2 : decide (24 < op) = true := by simpa using h2
    have e : res = false := by rw [unhide HE]; simp; intro; omega
    subst e
    go_enter Tryz.func144, Tryz.ntmps144
    go_wp2
    go_ret
    exact ⟨rfl, (Below.refl _ _).alloc (Nat.le_refl _) _⟩
  have d2 : decide (24 < op) = false := by simpa using h2
  have e : res = (rg && nm) := by
    have hh : decide (1 ≤ op ∧ op ≤ 24) = true := by simp; omega
    rw [unhide HE]
    simp only [hh, Bool.true_and]
  subst e
  have hr := unhide HR
  simp only at hr
  have HV := hide (fun w => valueRange_ok op w)
  generalize loI op = lo at *
  generalize hiI op = hi at *
  by_cases h3 : lo ≤ val ∧ val ≤ hi
  · have e : rg = true := by rw [hr]; simpa using h3
    subst e
    obtain ⟨h3, h4⟩ := h3
    have d3 : decide (lo ≤ val) = true := by simpa using h3
    have d4 : decide (val ≤ hi) = true := by simpa using h4
    clear hr
    go_enter Tryz.func144, Tryz.ntmps144
    go_wp2_with fail
    refine (unhide HV _).mono ?_
    rintro e w1 ⟨rfl, rfl⟩
    go_wp2_with fail
    refine (unhide HI _).mono ?_
    rintro e w2 ⟨rfl, hb⟩
    go_wp2
    go_ret
    exact ⟨ret_bool (by simp), ((Below.refl _ _).alloc (Nat.le_refl _) _).trans (hb.mono (by simp))⟩
  · have e : rg = false := by rw [hr]; simpa using h3
    subst e
    clear hr
    by_cases h4 : lo ≤ val
    · have h5 : ¬ val ≤ hi := fun h => h3 ⟨h4, h⟩
      have d3 : decide (lo ≤ val) = true := by simpa using h4
      have d4 : decide (val ≤ hi) = false := by simpa using h5
      clear h3
      go_enter Tryz.func144, Tryz.ntmps144
      go_wp2_with fail
      refine (unhide HV _).mono ?_
      rintro e w1 ⟨rfl, rfl⟩
      go_wp2
      go_ret
      exact ⟨ret_bool (by simp), (Below.refl _ _).alloc (Nat.le_refl _) _⟩
    · have d3 : decide (lo ≤ val) = false := by simpa using h4
      clear h3
      go_enter Tryz.func144, Tryz.ntmps144
      go_wp2_with fail
      refine (unhide HV _).mono ?_
      rintro e w1 ⟨rfl, rfl⟩
      go_wp2
      go_ret
      exact ⟨ret_bool (by simp), (Below.refl _ _).alloc (Nat.le_refl _) _⟩

set_option maxHeartbeats 1000000 in
theorem l1ItemOK_ok (t : DItem) (w : World) (hs : Len t.name.size) :
    Calls Tryz.prog 111 #[.agg #[.int .i64 t.op, .int .i64 t.val, .string t.name]] w (Ans (.bool (sItB t)) w) := by
  obtain ⟨op, val, s⟩ := t
  simp only at hs
  by_cases hn : op = 3 ∨ op = 23 ∨ op = 24
  · have e : sItB ⟨op, val, s⟩ = (nameB s && decide (loI op ≤ val ∧ val ≤ hiI op)) := by
      have h25 : ¬ op = 25 := by omega
      simp only [sItB, nmB, rgB, h25, decide_false, Bool.false_or]
      rw [if_pos hn]
    rw [e]
    clear e
    by_cases h0 : s.size = 0
    · have d0 := empty_yes s h0
      have d0' := isEmpty_yes s h0
      rw [nameB_empty s h0]
      rcases hn with rfl | rfl | rfl
      all_goals
        go_enter Tryz.func111, Tryz.ntmps111
        go_wp2
        go_ret
        exact ⟨rfl, (Below.refl _ _).alloc (Nat.le_refl _) _⟩
    · have d0 := empty_no s h0
      have d0' := isEmpty_no s h0
      cases hnm : nameB s
      · rcases hn with rfl | rfl | rfl
        all_goals
          go_enter Tryz.func111, Tryz.ntmps111
          go_wp2_with fail
          refine (l1Name_ok s _ hs).mono ?_
          rintro e w1 ⟨rfl, hb⟩
          rw [hnm]
          go_wp2
          go_ret
          exact ⟨rfl, ((Below.refl _ _).alloc (Nat.le_refl _) _).trans (hb.mono (by simp))⟩
      · rcases hn with rfl | rfl | rfl
        all_goals
          simp only [loI, hiI]
          go_enter Tryz.func111, Tryz.ntmps111
          go_wp2_with fail
          refine (l1Name_ok s _ hs).mono ?_
          rintro e w1 ⟨rfl, hb⟩
          rw [hnm]
          obtain ⟨hc1, hf1⟩ := bcell hb
          have hz := hb.size
          simp only [World.size_alloc] at hz hc1 hf1
          have hza : w.heap.size < w1.heap.size := by omega
          have HB := hide (((Below.refl w.heap.size w).alloc (Nat.le_refl _) _).trans (hb.mono (by simp)))
          clear hb hz
          go_wp2
          all_goals
            go_ret
            refine ⟨ret_bool ?_, unhide HB⟩
            simp_all
            try omega
  · have d1 : (op == 3) = false := by rw [beq_eq_false_iff_ne]; omega
    have d2 : (op == 23) = false := by rw [beq_eq_false_iff_ne]; omega
    have d3 : (op == 24) = false := by rw [beq_eq_false_iff_ne]; omega
    have e : sItB ⟨op, val, s⟩ = (decide (s.size = 0) && (decide (op = 25) || decide (loI op ≤ val ∧ val ≤ hiI op))) := by
      simp only [sItB, nmB, rgB]
      rw [if_neg hn]
    rw [e]
    clear e
    by_cases h0 : s.size = 0
    · have d0 := empty_yes s h0
      have d0' := isEmpty_yes s h0
      have e : decide (s.size = 0) = true := by simpa using h0
      rw [e]
      clear e h0
      go_enter Tryz.func111, Tryz.ntmps111
      go_wp2
      all_goals
        go_ret
        refine ⟨ret_bool ?_, (Below.refl _ _).alloc (Nat.le_refl _) _⟩
        simp_all [loI, hiI]
        try omega
    · have d0 := empty_no s h0
      have d0' := isEmpty_no s h0
      have e : decide (s.size = 0) = false := by simpa using h0
      rw [e]
      clear e h0
      go_enter Tryz.func111, Tryz.ntmps111
      go_wp2
      go_ret
      exact ⟨rfl, (Below.refl _ _).alloc (Nat.le_refl _) _⟩

end Go.Proofs.YtmglbkndjnflkaaGreatDoor
