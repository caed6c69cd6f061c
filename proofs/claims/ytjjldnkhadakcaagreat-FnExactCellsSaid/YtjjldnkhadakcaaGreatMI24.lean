import Derived.Test.YtjjldnkhadakcaaGreatMI23
namespace Go.Proofs.YtjjldnkhadakcaaGreat
open Go.RowKit
set_option linter.unusedSimpArgs false
set_option linter.unusedVariables false

theorem addr_of {w : World} {v : Value} {ks : List DClass} (h : SlAt 7 160 RClass 0 w v ks) : ∃ b0 o0, ks ≠ [] → ∃ n c, v = .slice (some ⟨b0, o0, none⟩) n c := by
  by_cases e : ks = []
  · exact ⟨0, 0, fun h => absurd e h⟩
  · obtain ⟨a, cap, rfl, _, _, hx⟩ := h
    obtain ⟨b, o, cs, rfl, _⟩ := hx 0 (List.length_pos_iff.2 e)
    exact ⟨b, o, fun _ => ⟨_, _, rfl⟩⟩

set_option maxHeartbeats 1000000 in
theorem implMachineOK_ok (ks : List DClass) (v : Value) (w : World) (hm : SlAt 7 160 RClass 0 w v ks) : Calls Tryz.prog 11 #[.agg #[v]] w (Ans (.bool (plansB ks && decide (1 ≤ ks.length))) w) := by
  obtain ⟨ma, mc, rfl⟩ := hm.shape
  have hml := hm.lenI
  have hA : Below w.heap.size w (w.alloc (.cells #[.slice ma ks.length mc] 29)) := (Below.refl _ _).alloc (Nat.le_refl _) _
  obtain ⟨b0, o0, hb0⟩ := addr_of hm
  have HP := hide (plansOf_ok ks _ b0 o0 _ (hm.stays RClass_kept hA) hb0)
  have HA := hide hA
  clear hm hA hb0
  generalize plansB ks = R at *
  cases R
  · rw [Bool.false_and]
    go_enter Tryz.func11, Tryz.ntmps11
    go_wp2_with fail
    refine (unhide HP).mono ?_
    rintro e w1 ⟨h1, _, hb1⟩
    have h1' := h1 rfl
    subst h1'
    have HB := hide ((unhide HA).trans (hb1.mono (unhide HA).size))
    clear hb1 h1
    go_wp2
    go_ret
    exact ⟨rfl, unhide HB⟩
  · rw [Bool.true_and]
    go_enter Tryz.func11, Tryz.ntmps11
    go_wp2_with fail
    refine (unhide HP).mono ?_
    rintro e w1 ⟨_, h1, hb1⟩
    obtain ⟨pv, pl, rfl, hl, hS, _⟩ := h1 rfl
    obtain ⟨pa, pc, rfl⟩ := hS.shape
    have HB := hide ((unhide HA).trans (hb1.mono (unhide HA).size))
    rw [hl]
    clear hb1 h1 hS hl
    go_wp2
    go_ret
    refine ⟨ret_bl2x ?_, unhide HB⟩
    simp only [decide_eq_decide]
    omega

/-- The plan of one class. -/
def PtPost (ks : List DClass) (b0 o0 : Nat) (c : Int) (w : World) (R : Bool) (e : Ending) (w' : World) : Prop :=
  (R = false → e = .returned (.pointer none)) ∧ (R = true → ∃ pb i, c = ((i : Nat) : Int) ∧ i < ks.length ∧ e = .returned (.pointer (some ⟨pb, 0, none⟩)) ∧ PA (fun _ => True) w' b0 o0 i pb ((fTo ks ks.length).getD i []) ((kTo ks ks.length).getD i 0) ((rTo ks ks.length).getD i 0)) ∧ Below w.heap.size w w'
set_option maxHeartbeats 1000000 in
theorem planAt_ok (ks : List DClass) (v : Value) (b0 o0 : Nat) (c : Int) (w : World) (hm : SlAt 7 160 RClass 0 w v ks) (hb0 : ks ≠ [] → ∃ n c, v = .slice (some ⟨b0, o0, none⟩) n c) : Calls Tryz.prog 34 #[.agg #[v], .int .i64 c] w (PtPost ks b0 o0 c w (plansB ks && decide (0 ≤ c ∧ c < (ks.length : Int)))) := by
  obtain ⟨ma, mc, rfl⟩ := hm.shape
  have hml := hm.lenI
  have hA : Below w.heap.size w (w.alloc (.cells #[.slice ma ks.length mc] 29)) := (Below.refl _ _).alloc (Nat.le_refl _) _
  have HP := hide (plansOf_ok ks _ b0 o0 _ (hm.stays RClass_kept hA) hb0)
  have HA := hide hA
  clear hm hA hb0
  generalize plansB ks = R at *
  cases R
  · rw [Bool.false_and]
    by_cases h0 : c < 0
    · have e1 : decide (c < 0) = true := decide_eq_true h0
      go_enter Tryz.func34, Tryz.ntmps34
      go_wp2_with fail
      refine (unhide HP).mono ?_
      rintro e w1 ⟨h1, _, hb1⟩
      have h1' := h1 rfl
      subst h1'
      have HB := hide ((unhide HA).trans (hb1.mono (unhide HA).size))
      clear hb1 h1
      go_wp2
      go_ret
      exact ⟨(fun _ => rfl), (fun h => by cases h), unhide HB⟩
    · have e1 : decide (c < 0) = false := decide_eq_false h0
      have e2 : decide (0 ≤ c) = true := decide_eq_true (by omega)
      go_enter Tryz.func34, Tryz.ntmps34
      go_wp2_with fail
      refine (unhide HP).mono ?_
      rintro e w1 ⟨h1, _, hb1⟩
      have h1' := h1 rfl
      subst h1'
      have HB := hide ((unhide HA).trans (hb1.mono (unhide HA).size))
      clear hb1 h1
      go_wp2
      go_ret
      exact ⟨(fun _ => rfl), (fun h => by cases h), unhide HB⟩
  rw [Bool.true_and]
  by_cases h0 : c < 0
  · have e1 : decide (c < 0) = true := decide_eq_true h0
    rw [decide_eq_false (by omega)]
    go_enter Tryz.func34, Tryz.ntmps34
    go_wp2_with fail
    refine (unhide HP).mono ?_
    rintro e w1 ⟨_, h1, hb1⟩
    obtain ⟨pv, pl, rfl, hl, hS, _⟩ := h1 rfl
    obtain ⟨pa, pc, rfl⟩ := hS.shape
    have HB := hide ((unhide HA).trans (hb1.mono (unhide HA).size))
    clear hb1 h1 hS hl
    go_wp2
    go_ret
    exact ⟨(fun _ => rfl), (fun h => by cases h), unhide HB⟩
  have e1 : decide (c < 0) = false := decide_eq_false h0
  by_cases h1 : (ks.length : Int) ≤ c
  · have e2 : decide ((ks.length : Int) ≤ c) = true := decide_eq_true h1
    rw [decide_eq_false (by omega)]
    go_enter Tryz.func34, Tryz.ntmps34
    go_wp2_with fail
    refine (unhide HP).mono ?_
    rintro e w1 ⟨_, h1, hb1⟩
    obtain ⟨pv, pl, rfl, hl, hS, _⟩ := h1 rfl
    obtain ⟨pa, pc, rfl⟩ := hS.shape
    have HB := hide ((unhide HA).trans (hb1.mono (unhide HA).size))
    rw [hl]
    clear hb1 h1 hS hl
    go_wp2
    go_ret
    exact ⟨(fun _ => rfl), (fun h => by cases h), unhide HB⟩
  have e2 : decide ((ks.length : Int) ≤ c) = false := decide_eq_false h1
  obtain ⟨i, rfl⟩ := Int.eq_ofNat_of_zero_le (show 0 ≤ c by omega)
  have e2n : decide (ks.length ≤ i) = false := decide_eq_false (by omega)
  have hik : i < ks.length := by omega
  rw [decide_eq_true (by omega)]
  go_enter Tryz.func34, Tryz.ntmps34
  go_wp2_with fail
  refine (unhide HP).mono ?_
  rintro e w1 ⟨_, h1, hb1⟩
  obtain ⟨pv, pl, rfl, hl, hS, hEP⟩ := h1 rfl
  have hS' := hS
  obtain ⟨pa, pc, rfl, _, _, hx⟩ := hS'
  obtain ⟨b, o, cs, rfl, _, hbb, _, hc, rfl⟩ := hx i (by omega)
  have q0 := hc 0 (by simp)
  simp only [Nat.mul_one, Nat.add_zero, List.getElem_cons_zero] at q0
  have hpa := hEP.pa i (by omega) (by rw [fTo_len]; omega) (by rw [kTo_len]; omega) (by rw [rTo_len]; omega)
  have HPA : Hid (PA (fun _ => True) w1 b0 o0 i (pl[i]'(by omega)) ((fTo ks ks.length).getD i []) ((kTo ks ks.length).getD i 0) ((rTo ks ks.length).getD i 0)) := by
    refine hide ?_
    rw [List.getD_eq_getElem?_getD, List.getElem?_eq_getElem (by rw [fTo_len]; omega), List.getD_eq_getElem?_getD, List.getElem?_eq_getElem (by rw [kTo_len]; omega), List.getD_eq_getElem?_getD, List.getElem?_eq_getElem (by rw [rTo_len]; omega)]
    exact hpa
  have HB := hide ((unhide HA).trans (hb1.mono (unhide HA).size))
  generalize pl[i]'(by omega) = pb at *
  rw [hl]
  have hiI : (i : Int) < (ks.length : Int) := by omega
  clear hb1 h1 hS hl hx hc hpa hEP
  go_wp2
  go_ret
  exact ⟨(fun h => by cases h), (fun _ => ⟨pb, i, rfl, hik, rfl, unhide HPA⟩), unhide HB⟩

set_option maxHeartbeats 1000000 in
theorem implCells_ok (ks : List DClass) (v : Value) (c : Int) (w : World) (hm : SlAt 7 160 RClass 0 w v ks) (hc : I64 c) : Calls Tryz.prog 14 #[.agg #[v], .int .i64 c] w (Ans (.int .i64 (if (plansB ks && decide (0 ≤ c ∧ c < (ks.length : Int))) = true then ((((fTo ks ks.length).getD c.toNat []).length : Nat) : Int) else -1)) w) := by
  obtain ⟨ma, mc, rfl⟩ := hm.shape
  have hA : Below w.heap.size w (w.alloc (.cells #[.slice ma ks.length mc] 29)) := (Below.refl _ _).alloc (Nat.le_refl _) _
  obtain ⟨b0, o0, hb0⟩ := addr_of hm
  have HP := hide (planAt_ok ks _ b0 o0 c _ (hm.stays RClass_kept hA) hb0)
  have HA := hide hA
  clear hm hA hb0 hc
  generalize (plansB ks && decide (0 ≤ c ∧ c < (ks.length : Int))) = R at *
  cases R
  · go_enter Tryz.func14, Tryz.ntmps14
    go_wp2_with fail
    refine (unhide HP).mono ?_
    rintro e w1 ⟨h1, _, hb1⟩
    have h1' := h1 rfl
    subst h1'
    have HB := hide ((unhide HA).trans (hb1.mono (unhide HA).size))
    clear hb1 h1
    go_wp2
    go_ret
    exact ⟨rfl, unhide HB⟩
  · rw [if_pos rfl]
    go_enter Tryz.func14, Tryz.ntmps14
    go_wp2_with fail
    refine (unhide HP).mono ?_
    rintro e w1 ⟨_, h1, hb1⟩
    obtain ⟨pb, i, rfl, hi, rfl, mb, iv, fa, fc, bv, hk, _⟩ := h1 rfl
    have q0 := hk.cell (i := 3) (v := .slice fa ((fTo ks ks.length).getD i []).length fc) rfl
    have HB := hide ((unhide HA).trans (hb1.mono (unhide HA).size))
    clear hb1 h1 hk
    generalize hfi : (fTo ks ks.length).getD i [] = fi at *
    generalize hki : (kTo ks ks.length).getD i 0 = ki at *
    have HFI := hide hfi
    have HKI := hide hki
    clear hfi hki
    go_wp2
    go_ret
    refine ⟨?_, unhide HB⟩
    rw [Int.toNat_natCast]
    first | (rw [unhide HFI]; rfl) | (rw [unhide HKI]; rfl)

set_option maxHeartbeats 1000000 in
theorem implBound_ok (ks : List DClass) (v : Value) (c : Int) (w : World) (hm : SlAt 7 160 RClass 0 w v ks) (hc : I64 c) : Calls Tryz.prog 16 #[.agg #[v], .int .i64 c] w (Ans (.int .i64 (if (plansB ks && decide (0 ≤ c ∧ c < (ks.length : Int))) = true then (kTo ks ks.length).getD c.toNat 0 else -1)) w) := by
  obtain ⟨ma, mc, rfl⟩ := hm.shape
  have hA : Below w.heap.size w (w.alloc (.cells #[.slice ma ks.length mc] 29)) := (Below.refl _ _).alloc (Nat.le_refl _) _
  obtain ⟨b0, o0, hb0⟩ := addr_of hm
  have HP := hide (planAt_ok ks _ b0 o0 c _ (hm.stays RClass_kept hA) hb0)
  have HA := hide hA
  clear hm hA hb0 hc
  generalize (plansB ks && decide (0 ≤ c ∧ c < (ks.length : Int))) = R at *
  cases R
  · go_enter Tryz.func16, Tryz.ntmps16
    go_wp2_with fail
    refine (unhide HP).mono ?_
    rintro e w1 ⟨h1, _, hb1⟩
    have h1' := h1 rfl
    subst h1'
    have HB := hide ((unhide HA).trans (hb1.mono (unhide HA).size))
    clear hb1 h1
    go_wp2
    go_ret
    exact ⟨rfl, unhide HB⟩
  · rw [if_pos rfl]
    go_enter Tryz.func16, Tryz.ntmps16
    go_wp2_with fail
    refine (unhide HP).mono ?_
    rintro e w1 ⟨_, h1, hb1⟩
    obtain ⟨pb, i, rfl, hi, rfl, mb, iv, fa, fc, bv, hk, _⟩ := h1 rfl
    have q0 := hk.cell (i := 5) (v := .int .i64 ((kTo ks ks.length).getD i 0)) rfl
    have HB := hide ((unhide HA).trans (hb1.mono (unhide HA).size))
    clear hb1 h1 hk
    generalize hfi : (fTo ks ks.length).getD i [] = fi at *
    generalize hki : (kTo ks ks.length).getD i 0 = ki at *
    have HFI := hide hfi
    have HKI := hide hki
    clear hfi hki
    go_wp2
    go_ret
    refine ⟨?_, unhide HB⟩
    rw [Int.toNat_natCast]
    first | (rw [unhide HFI]; rfl) | (rw [unhide HKI]; rfl)

end Go.Proofs.YtjjldnkhadakcaaGreat
