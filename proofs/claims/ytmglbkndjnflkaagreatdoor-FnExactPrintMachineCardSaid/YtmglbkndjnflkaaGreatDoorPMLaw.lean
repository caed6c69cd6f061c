import Derived.Test.YtmglbkndjnflkaaGreatDoorMSz
import Derived.Test.YtmglbkndjnflkaaGreatDoorMToB
import Derived.Test.YtmglbkndjnflkaaGreatDoorPI6
namespace Go.Proofs.YtmglbkndjnflkaaGreatDoor
open Go.RowKit
set_option linter.unusedSimpArgs false
set_option linter.unusedVariables false

theorem sum_geC (f : DClass → Nat) (ns : List DClass) (n : DClass) (h : n ∈ ns) : f n ≤ (ns.map f).sum := by
  induction ns with
  | nil => cases h
  | cons x xs ih =>
    simp only [List.map_cons, List.sum_cons]
    rcases List.mem_cons.1 h with rfl | h
    · omega
    · have := ih h
      omega
theorem few_of (ks : List DClass) (h : wSum wClass ks ≤ 1048576) : VarsFew ks := fun i hi => by
  have h1 := sum_geC wClass ks ks[i] (List.getElem_mem hi)
  have h2 : ks[i].ins.length + ks[i].outs.length + ks[i].locs.length ≤ wClass ks[i] := by
    simp only [wClass, wSum]
    omega
  unfold wSum at h
  omega

set_option maxHeartbeats 2000000 in
theorem law_ok (ns : List DClass) (v : Value) (w : World) (hE : Env w) (h1 : SlAt 7 160 RClass 0 w v ns) :
    Calls Tryz.prog 3 #[.agg #[v]] w (Ans (.bool true) w) := by
  obtain ⟨b0, c0, rfl⟩ := h1.shape
  have H1 := hide h1
  have HE := hide hE
  clear h1 hE
  have B0 := hide ((Below.refl w.heap.size w).alloc (Nat.le_refl _) (.cells #[.slice b0 ns.length c0] 24))
  go_enter Tryz.func3, Tryz.ntmps3
  go_wp2_with fail
  refine (szMachine_ok ns _ _ _ ?_ ?_ ?_).mono ?_
  · exact (unhide H1).stays RClass_kept (unhide B0)
  · omega
  · omega
  rintro e w1 ⟨r1, rfl, hr | ⟨p1, q1⟩, hb1⟩
  · subst hr
    go_wp2
    go_ret
    exact ⟨rfl, (unhide B0).trans (hb1.mono (unhide B0).size)⟩
  have hw : wSum wClass ns ≤ 1048576 := by omega
  have HSP : Hid (∃ tx : ByteArray, (∀ v w, SlAt 7 160 RClass 0 w v ns → Calls Tryz.prog 5 #[.agg #[v]] w (Ans (.string tx) w)) ∧ ∀ v w, Env w → SlAt 7 160 RClass 0 w v ns → Calls Tryz.prog 7 #[.agg #[v]] w (Ans (.string tx) w)) := by
    refine hide ⟨_, fun v w h => specPrint_of ns v w h (machB ns) (fun v w h => specMachineOK_ok ns v w h (few_of ns hw)) (fun hm => ⟨(pr_of ns hm hw).1, (pr_of ns hm hw).2.1⟩), fun v w hE h => implPrint_of ns v w hE h (machB ns) (fun v w h => ?_) (fun hm => (pr_of ns hm hw).2)⟩
    have h9 := implMachineOK_ok ns v w h
    rw [plans_mach] at h9
    exact h9
  obtain ⟨sh, hsp, him⟩ := unhide HSP
  have HSPE := hide hsp
  have HIMP := hide him
  clear hsp him HSP hw
  have HBX1 := hide (box_of hb1)
  have B1 : Hid (Below w.heap.size w w1) := (unhide B0).trans (hb1.mono (unhide B0).size)
  have k1 : w1.cell? ⟨w.heap.size, 0, none⟩ = some (.slice b0 ns.length c0) := by rw [box_cell (B := 0) (unhide HBX1) 0]; rfl
  clear hb1
  go_wp2_with fail
  refine (toMachine_ok ns _ _ ((unhide H1).stays RClass_kept (unhide B1))).mono ?_
  rintro e w2 ⟨cs2, rfl, ⟨vx, rfl, hS2⟩, hb2⟩
  have HS2 := hide (hS2.lower RClass_lowers (Nat.zero_le _))
  have B2 : Hid (Below w.heap.size w w2) := (unhide B1).trans (hb2.mono (unhide B1).size)
  have HBX2 : Hid (Below (w.heap.size + 1) _ w2) := (unhide HBX1).trans (hb2.mono (by have := (unhide HBX1).size; simp at this; omega))
  clear hS2 hb2 k1
  go_wp2_with fail
  refine (unhide HSPE _ _ (unhide HS2)).mono ?_
  rintro e w3 ⟨rfl, hb3⟩
  have B3 : Hid (Below w.heap.size w w3) := (unhide B2).trans (hb3.mono (unhide B2).size)
  have HBX3 : Hid (Below (w.heap.size + 1) _ w3) := (unhide HBX2).trans (hb3.mono (by have := (unhide HBX2).size; simp at this; omega))
  have k3 : w3.cell? ⟨w.heap.size, 0, none⟩ = some (.slice b0 ns.length c0) := by rw [box_cell (B := 0) (unhide HBX3) 0]; rfl
  clear hb3
  go_wp2_with fail
  refine (toMachine_ok ns _ _ ((unhide H1).stays RClass_kept (unhide B3))).mono ?_
  rintro e w4 ⟨cs4, rfl, ⟨vy, rfl, hS4⟩, hb4⟩
  obtain ⟨by4, cy4, rfl⟩ := hS4.shape
  have HS4 := hide (hS4.lower RClass_lowers (Nat.zero_le _))
  have B4 : Hid (Below w.heap.size w w4) := (unhide B3).trans (hb4.mono (unhide B3).size)
  have HBX4 : Hid (Below (w.heap.size + 1) _ w4) := (unhide HBX3).trans (hb4.mono (by have := (unhide HBX3).size; simp at this; omega))
  have BY := hide ((Below.refl w4.heap.size w4).alloc (Nat.le_refl _) (.cells #[.slice by4 ns.length cy4] 29))
  clear hS4 hb4 k3
  go_wp2_with fail
  refine (unhide HIMP _ _ (((unhide HE).below (unhide B4) (unhide HE).three).below (unhide BY) (Nat.le_trans (unhide HE).three (unhide B4).size)) ((unhide HS4).stays RClass_kept (unhide BY))).mono ?_
  rintro e w5 ⟨rfl, hb5⟩
  have HBY5 := hide (box_of hb5)
  have H45 : Hid (Below w4.heap.size w4 w5) := (unhide BY).trans (hb5.mono (unhide BY).size)
  have B5 : Hid (Below w.heap.size w w5) := (unhide B4).trans ((unhide H45).mono (unhide B4).size)
  have HBX5 : Hid (Below (w.heap.size + 1) _ w5) := (unhide HBX4).trans ((unhide H45).mono (by have := (unhide HBX4).size; simp at this; omega))
  have HS5 := hide ((unhide HS4).stays RClass_kept (unhide H45))
  have k5 : w5.cell? ⟨w.heap.size, 0, none⟩ = some (.slice b0 ns.length c0) := by rw [box_cell (B := 0) (unhide HBX5) 0]; rfl
  have j5 : w5.cell? ⟨w4.heap.size, 0, none⟩ = some (.slice by4 ns.length cy4) := by rw [box_cell (B := 0) (unhide HBY5) 0]; rfl
  have hz5 : w4.heap.size < w5.heap.size := by have := (unhide HBY5).size; simp at this; omega
  clear hb5
  have sb : (sh.toList != sh.toList) = false := by simp
  go_wp2_with fail
  have HTP := hide (toMachine_ok ns _ w5.drew ((unhide H1).stays RClass_kept (unhide B5).drew))
  go_region_with (first | (go_at_call 6; refine (unhide HTP).mono ?_; rintro e w6 ⟨cs6, rfl, ⟨vz, rfl, hS6⟩, hb6⟩; have j6 : w6.cell? ⟨w4.heap.size, 0, none⟩ = some (.slice by4 ns.length cy4) := (hb6.cell (p := ⟨w4.heap.size, 0, none⟩) hz5).trans j5; have HB6 := hide ((unhide B5).drew.trans (hb6.mono (unhide B5).drew.size)); have HE6 := hide (eqMachine_ok ns _ _ w6 ((unhide HS5).stays RClass_kept (Below.trans (Below.drew (Below.refl _ w5)) hb6)) (hS6.lower RClass_lowers (Nat.zero_le _))); clear hS6 hb6) | (go_at_call 8; refine (unhide HE6).mono ?_; rintro e w7 ⟨rfl, hb7⟩))
  all_goals
    go_wp2
    go_ret
    exact ⟨rfl, (unhide HB6).trans (hb7.mono (unhide HB6).size)⟩

end Go.Proofs.YtmglbkndjnflkaaGreatDoor
