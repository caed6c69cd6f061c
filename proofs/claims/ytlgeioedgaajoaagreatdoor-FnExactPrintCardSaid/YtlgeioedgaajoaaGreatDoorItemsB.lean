import Derived.Test.YtlgeioedgaajoaaGreatDoorItems
namespace Go.Proofs.YtlgeioedgaajoaaGreatDoor
open Go.RowKit
set_option linter.unusedSimpArgs false
set_option linter.unusedVariables false

def nmB (t : DItem) : Bool := if t.op = 3 ∨ t.op = 23 ∨ t.op = 24 then nameB t.name else decide (t.name.size = 0)
def rgB (t : DItem) : Bool := decide (loI t.op ≤ t.val ∧ t.val ≤ hiI t.op)
def sItB (t : DItem) : Bool := nmB t && (decide (t.op = 25) || rgB t)
def itB (t : DItem) : Bool := decide (1 ≤ t.op ∧ t.op ≤ 24) && rgB t && nmB t

theorem nameB_empty (s : ByteArray) (h : s.size = 0) : nameB s = false := by
  simp [nameB, plainB, freshB, h]

theorem isEmpty_yes (s : ByteArray) (h : s.size = 0) : s.toList.isEmpty = true := by
  have e : s.data.toList = [] := List.eq_nil_of_length_eq_zero (by rw [Array.length_toList]; exact h)
  rw [ByteArray.toList_eq, e]
  rfl
theorem isEmpty_no (s : ByteArray) (h : s.size ≠ 0) : s.toList.isEmpty = false := by
  cases hh : s.toList.isEmpty with
  | false => rfl
  | true =>
    rw [List.isEmpty_iff, ByteArray.toList_eq] at hh
    have := congrArg List.length hh
    rw [Array.length_toList] at this
    exact absurd this h

set_option maxHeartbeats 1000000 in
theorem itemNameOK_ok (t : DItem) (w : World) (hs : Len t.name.size) :
    Calls Tryz.prog 112 #[.agg #[.int .i64 t.op, .int .i64 t.val, .string t.name]] w (Ans (.bool (nmB t)) w) := by
  obtain ⟨op, val, s⟩ := t
  simp only at hs
  by_cases hn : op = 3 ∨ op = 23 ∨ op = 24
  · have e : nmB ⟨op, val, s⟩ = nameB s := by simp only [nmB]; rw [if_pos hn]
    rw [e]
    clear e
    rcases hn with rfl | rfl | rfl
    all_goals
      go_enter Tryz.func112, Tryz.ntmps112
      go_wp2_with fail
      refine (nameOK_ok s _ hs).mono ?_
      rintro e w1 ⟨rfl, hb⟩
      go_wp2
      go_ret
      exact ⟨rfl, ((Below.refl _ _).alloc (Nat.le_refl _) _).trans (hb.mono (by simp))⟩
  · have e : nmB ⟨op, val, s⟩ = s.toList.isEmpty := by
      simp only [nmB]
      rw [if_neg hn]
      by_cases h0 : s.size = 0
      · rw [isEmpty_yes s h0]; simpa using h0
      · rw [isEmpty_no s h0]; simpa using h0
    rw [e]
    clear e
    have d1 : (op == 3) = false := by rw [beq_eq_false_iff_ne]; omega
    have d2 : (op == 23) = false := by rw [beq_eq_false_iff_ne]; omega
    have d3 : (op == 24) = false := by rw [beq_eq_false_iff_ne]; omega
    clear hn
    go_enter Tryz.func112, Tryz.ntmps112
    go_wp2
    go_ret
    exact ⟨rfl, (Below.refl _ _).alloc (Nat.le_refl _) _⟩

set_option maxHeartbeats 1000000 in
theorem itemOK_ok (t : DItem) (w : World) (hs : Len t.name.size) :
    Calls Tryz.prog 97 #[.agg #[.int .i64 t.op, .int .i64 t.val, .string t.name]] w (Ans (.bool (itB t)) w) := by
  have HI := hide (fun w => itemNameOK_ok t w hs)
  have HE : Hid (itB t = (decide (1 ≤ t.op ∧ t.op ≤ 24) && rgB t && nmB t)) := rfl
  have HR : Hid (rgB t = decide (loI t.op ≤ t.val ∧ t.val ≤ hiI t.op)) := rfl
  generalize itB t = res at *
  generalize nmB t = nm at *
  generalize rgB t = rg at *
  obtain ⟨op, val, s⟩ := t
  simp only at hs
  by_cases h1 : op < 1
  · have d1 : decide (op < 1) = true := by simpa using h1
    have e : res = false := by rw [unhide HE]; simp; intro; omega
    subst e
    go_enter Tryz.func97, Tryz.ntmps97
    go_wp2
    go_ret
    exact ⟨rfl, (Below.refl _ _).alloc (Nat.le_refl _) _⟩
  have d1 : decide (op < 1) = false := by simpa using h1
  by_cases h2 : 24 < op
  · have d2 : decide (24 < op) = true := by simpa using h2
    have e : res = false := by rw [unhide HE]; simp; intro; omega
    subst e
    go_enter Tryz.func97, Tryz.ntmps97
    go_wp2
    go_ret
    exact ⟨rfl, (Below.refl _ _).alloc (Nat.le_refl _) _⟩
  have d2 : decide (24 < op) = false := by simpa using h2
  have e : res = (rg && nm) := by
    have hh : decide (1 ≤ op ∧ op ≤ 24) = true := by simp; omega
    rw [unhide HE]
    simp only [hh, Bool.true_and]
  subst e
  have hr := unhide HR
  simp only at hr
  have HV := hide (fun w => valueRange_ok op w)
  generalize loI op = lo at *
  generalize hiI op = hi at *
  by_cases h3 : lo ≤ val ∧ val ≤ hi
  · have e : rg = true := by rw [hr]; simpa using h3
    subst e
    obtain ⟨h3, h4⟩ := h3
    have d3 : decide (lo ≤ val) = true := by simpa using h3
    have d4 : decide (val ≤ hi) = true := by simpa using h4
    clear hr
    go_enter Tryz.func97, Tryz.ntmps97
    go_wp2_with fail
    refine (unhide HV _).mono ?_
    rintro e w1 ⟨rfl, rfl⟩
    go_wp2_with fail
    refine (unhide HI _).mono ?_
    rintro e w2 ⟨rfl, hb⟩
    go_wp2
    go_ret
    exact ⟨ret_bool (by simp), ((Below.refl _ _).alloc (Nat.le_refl _) _).trans (hb.mono (by simp))⟩
  · have e : rg = false := by rw [hr]; simpa using h3
    subst e
    clear hr
    by_cases h4 : lo ≤ val
    · have h5 : ¬ val ≤ hi := fun h => h3 ⟨h4, h⟩
      have d3 : decide (lo ≤ val) = true := by simpa using h4
      have d4 : decide (val ≤ hi) = false := by simpa using h5
      clear h3
      go_enter Tryz.func97, Tryz.ntmps97
      go_wp2_with fail
      refine (unhide HV _).mono ?_
      rintro e w1 ⟨rfl, rfl⟩
      go_wp2
      go_ret
      exact ⟨ret_bool (by simp), (Below.refl _ _).alloc (Nat.le_refl _) _⟩
    · have d3 : decide (lo ≤ val) = false := by simpa using h4
      clear h3
      go_enter Tryz.func97, Tryz.ntmps97
      go_wp2_with fail
      refine (unhide HV _).mono ?_
      rintro e w1 ⟨rfl, rfl⟩
      go_wp2
      go_ret
      exact ⟨ret_bool (by simp), (Below.refl _ _).alloc (Nat.le_refl _) _⟩

set_option maxHeartbeats 1000000 in
theorem l1ItemOK_ok (t : DItem) (w : World) (hs : Len t.name.size) :
    Calls Tryz.prog 63 #[.agg #[.int .i64 t.op, .int .i64 t.val, .string t.name]] w (Ans (.bool (sItB t)) w) := by
  obtain ⟨op, val, s⟩ := t
  simp only at hs
  by_cases hn : op = 3 ∨ op = 23 ∨ op = 24
  · have e : sItB ⟨op, val, s⟩ = (nameB s && decide (loI op ≤ val ∧ val ≤ hiI op)) := by
      have h25 : ¬ op = 25 := by omega
      simp only [sItB, nmB, rgB, h25, decide_false, Bool.false_or]
      rw [if_pos hn]
    rw [e]
    clear e
    by_cases h0 : s.size = 0
    · have d0 := empty_yes s h0
      have d0' := isEmpty_yes s h0
      rw [nameB_empty s h0]
      rcases hn with rfl | rfl | rfl
      all_goals
        go_enter Tryz.func63, Tryz.ntmps63
        go_wp2
        go_ret
        exact ⟨rfl, (Below.refl _ _).alloc (Nat.le_refl _) _⟩
    · have d0 := empty_no s h0
      have d0' := isEmpty_no s h0
      cases hnm : nameB s
      · rcases hn with rfl | rfl | rfl
        all_goals
          go_enter Tryz.func63, Tryz.ntmps63
          go_wp2_with fail
          refine (l1Name_ok s _ hs).mono ?_
          rintro e w1 ⟨rfl, hb⟩
          rw [hnm]
          go_wp2
          go_ret
          exact ⟨rfl, ((Below.refl _ _).alloc (Nat.le_refl _) _).trans (hb.mono (by simp))⟩
      · rcases hn with rfl | rfl | rfl
        all_goals
          simp only [loI, hiI]
          go_enter Tryz.func63, Tryz.ntmps63
          go_wp2_with fail
          refine (l1Name_ok s _ hs).mono ?_
          rintro e w1 ⟨rfl, hb⟩
          rw [hnm]
          obtain ⟨hc1, hf1⟩ := bcell hb
          have hz := hb.size
          simp only [World.size_alloc] at hz hc1 hf1
          have hza : w.heap.size < w1.heap.size := by omega
          have HB := hide (((Below.refl w.heap.size w).alloc (Nat.le_refl _) _).trans (hb.mono (by simp)))
          clear hb hz
          go_wp2
          all_goals
            go_ret
            refine ⟨ret_bool ?_, unhide HB⟩
            simp_all
            try omega
  · have d1 : (op == 3) = false := by rw [beq_eq_false_iff_ne]; omega
    have d2 : (op == 23) = false := by rw [beq_eq_false_iff_ne]; omega
    have d3 : (op == 24) = false := by rw [beq_eq_false_iff_ne]; omega
    have e : sItB ⟨op, val, s⟩ = (decide (s.size = 0) && (decide (op = 25) || decide (loI op ≤ val ∧ val ≤ hiI op))) := by
      simp only [sItB, nmB, rgB]
      rw [if_neg hn]
    rw [e]
    clear e
    by_cases h0 : s.size = 0
    · have d0 := empty_yes s h0
      have d0' := isEmpty_yes s h0
      have e : decide (s.size = 0) = true := by simpa using h0
      rw [e]
      clear e h0
      go_enter Tryz.func63, Tryz.ntmps63
      go_wp2
      all_goals
        go_ret
        refine ⟨ret_bool ?_, (Below.refl _ _).alloc (Nat.le_refl _) _⟩
        simp_all [loI, hiI]
        try omega
    · have d0 := empty_no s h0
      have d0' := isEmpty_no s h0
      have e : decide (s.size = 0) = false := by simpa using h0
      rw [e]
      clear e h0
      go_enter Tryz.func63, Tryz.ntmps63
      go_wp2
      go_ret
      exact ⟨rfl, (Below.refl _ _).alloc (Nat.le_refl _) _⟩

end Go.Proofs.YtlgeioedgaajoaaGreatDoor
