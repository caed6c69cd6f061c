import Derived.Test.YtmglbkndjnflkaaGreatDoorMI23
namespace Go.Proofs.YtmglbkndjnflkaaGreatDoor
open Go.RowKit
set_option linter.unusedSimpArgs false
set_option linter.unusedVariables false

theorem addr_of {w : World} {v : Value} {ks : List DClass} (h : SlAt 7 160 RClass 0 w v ks) : ∃ b0 o0, ks ≠ [] → ∃ n c, v = .slice (some ⟨b0, o0, none⟩) n c := by
  by_cases e : ks = []
  · exact ⟨0, 0, fun h => absurd e h⟩
  · obtain ⟨a, cap, rfl, _, _, hx⟩ := h
    obtain ⟨b, o, cs, rfl, _⟩ := hx 0 (List.length_pos_iff.2 e)
    exact ⟨b, o, fun _ => ⟨_, _, rfl⟩⟩

set_option maxHeartbeats 1000000 in
theorem implMachineOK_ok (ks : List DClass) (v : Value) (w : World) (hm : SlAt 7 160 RClass 0 w v ks) : Calls Tryz.prog 15 #[.agg #[v]] w (Ans (.bool (plansB ks && decide (1 ≤ ks.length))) w) := by
  obtain ⟨ma, mc, rfl⟩ := hm.shape
  have hml := hm.lenI
  have hA : Below w.heap.size w (w.alloc (.cells #[.slice ma ks.length mc] 29)) := (Below.refl _ _).alloc (Nat.le_refl _) _
  obtain ⟨b0, o0, hb0⟩ := addr_of hm
  have HP := hide (plansOf_ok ks _ b0 o0 _ (hm.stays RClass_kept hA) hb0)
  have HA := hide hA
  clear hm hA hb0
  generalize plansB ks = R at *
  cases R
  · rw [Bool.false_and]
    go_enter Tryz.func15, Tryz.ntmps15
    go_wp2_with fail
    refine (unhide HP).mono ?_
    rintro e w1 ⟨h1, _, hb1⟩
    have h1' := h1 rfl
    subst h1'
    have HB := hide ((unhide HA).trans (hb1.mono (unhide HA).size))
    clear hb1 h1
    go_wp2
    go_ret
    exact ⟨rfl, unhide HB⟩
  · rw [Bool.true_and]
    go_enter Tryz.func15, Tryz.ntmps15
    go_wp2_with fail
    refine (unhide HP).mono ?_
    rintro e w1 ⟨_, h1, hb1⟩
    obtain ⟨pv, pl, rfl, hl, hS, _⟩ := h1 rfl
    obtain ⟨pa, pc, rfl⟩ := hS.shape
    have HB := hide ((unhide HA).trans (hb1.mono (unhide HA).size))
    rw [hl]
    clear hb1 h1 hS hl
    go_wp2
    go_ret
    refine ⟨ret_bl2x ?_, unhide HB⟩
    simp only [decide_eq_decide]
    omega

end Go.Proofs.YtmglbkndjnflkaaGreatDoor
