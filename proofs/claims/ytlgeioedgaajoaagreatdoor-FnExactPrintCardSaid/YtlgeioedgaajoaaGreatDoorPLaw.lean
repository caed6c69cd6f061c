import Derived.Test.YtlgeioedgaajoaaGreatDoorSz
import Derived.Test.YtlgeioedgaajoaaGreatDoorTo
import Derived.Test.YtlgeioedgaajoaaGreatDoorEq
import Derived.Test.YtlgeioedgaajoaaGreatDoorTI9
namespace Go.Proofs.YtlgeioedgaajoaaGreatDoor
open Go.RowKit
set_option linter.unusedSimpArgs false
set_option linter.unusedVariables false

theorem sum_ge (f : DNode → Nat) (ns : List DNode) (n : DNode) (h : n ∈ ns) : f n ≤ (ns.map f).sum := by
  induction ns with
  | nil => cases h
  | cons x xs ih =>
    simp only [List.map_cons, List.sum_cons]
    rcases List.mem_cons.1 h with rfl | h
    · omega
    · have := ih h
      omega
theorem small_node (ns : List DNode) (n : DNode) (h : n ∈ ns) : n.ins.length + n.outs.length + n.vars.length ≤ wSum wNode ns := by
  have h1 := sum_ge wNode ns n h
  have h2 : n.ins.length + n.outs.length + n.vars.length ≤ wNode n := by
    simp only [wNode, wSum]
    omega
  unfold wSum
  omega

set_option maxHeartbeats 2000000 in
theorem law_ok (ns : List DNode) (v : Value) (w : World) (hE : Env w) (h1 : SlAt 5 112 RNode 0 w v ns) :
    Calls Tryz.prog 3 #[.agg #[v]] w (Ans (.bool true) w) := by
  obtain ⟨b0, c0, rfl⟩ := h1.shape
  have H1 := hide h1
  have HE := hide hE
  clear h1 hE
  have B0 := hide ((Below.refl w.heap.size w).alloc (Nat.le_refl _) (.cells #[.slice b0 ns.length c0] 24))
  go_enter Tryz.func3, Tryz.ntmps3
  go_wp2_with fail
  refine (szProgram_ok ns _ _ _ ?_ ?_ ?_).mono ?_
  · exact (unhide H1).stays RNode_kept (unhide B0)
  · omega
  · omega
  rintro e w1 ⟨r1, rfl, hr | ⟨p1, q1⟩, hb1⟩
  · subst hr
    go_wp2
    go_ret
    exact ⟨rfl, (unhide B0).trans (hb1.mono (unhide B0).size)⟩
  have hsm : ∀ n, n ∈ ns → n.ins.length + n.outs.length + n.vars.length ≤ 1048576 := fun n hn => by
    have := small_node ns n hn
    omega
  have HSM := hide hsm
  have HBX1 := hide (box_of hb1)
  have B1 : Hid (Below w.heap.size w w1) := (unhide B0).trans (hb1.mono (unhide B0).size)
  have k1 : w1.cell? ⟨w.heap.size, 0, none⟩ = some (.slice b0 ns.length c0) := by rw [box_cell (B := 0) (unhide HBX1) 0]; rfl
  clear hsm hb1
  go_wp2_with fail
  refine (toProgram_ok ns _ _ ((unhide H1).stays RNode_kept (unhide B1))).mono ?_
  rintro e w2 ⟨cs2, rfl, ⟨vx, rfl, hS2⟩, hb2⟩
  have HS2 := hide (hS2.lower RNode_lowers (Nat.zero_le _))
  have B2 : Hid (Below w.heap.size w w2) := (unhide B1).trans (hb2.mono (unhide B1).size)
  have HBX2 : Hid (Below (w.heap.size + 1) _ w2) := (unhide HBX1).trans (hb2.mono (by have := (unhide HBX1).size; simp at this; omega))
  clear hS2 hb2 k1
  go_wp2_with fail
  refine (specPrint_all ns _ _ (unhide HS2) (unhide HSM)).mono ?_
  rintro e w3 ⟨rfl, hb3⟩
  have B3 : Hid (Below w.heap.size w w3) := (unhide B2).trans (hb3.mono (unhide B2).size)
  have HBX3 : Hid (Below (w.heap.size + 1) _ w3) := (unhide HBX2).trans (hb3.mono (by have := (unhide HBX2).size; simp at this; omega))
  have k3 : w3.cell? ⟨w.heap.size, 0, none⟩ = some (.slice b0 ns.length c0) := by rw [box_cell (B := 0) (unhide HBX3) 0]; rfl
  clear hb3
  go_wp2_with fail
  refine (toProgram_ok ns _ _ ((unhide H1).stays RNode_kept (unhide B3))).mono ?_
  rintro e w4 ⟨cs4, rfl, ⟨vy, rfl, hS4⟩, hb4⟩
  obtain ⟨by4, cy4, rfl⟩ := hS4.shape
  have HS4 := hide (hS4.lower RNode_lowers (Nat.zero_le _))
  have B4 : Hid (Below w.heap.size w w4) := (unhide B3).trans (hb4.mono (unhide B3).size)
  have HBX4 : Hid (Below (w.heap.size + 1) _ w4) := (unhide HBX3).trans (hb4.mono (by have := (unhide HBX3).size; simp at this; omega))
  have BY := hide ((Below.refl w4.heap.size w4).alloc (Nat.le_refl _) (.cells #[.slice by4 ns.length cy4] 29))
  clear hS4 hb4 k3
  go_wp2_with fail
  refine (implPrint_ok ns _ _ (((unhide HE).below (unhide B4) (unhide HE).three).below (unhide BY) (Nat.le_trans (unhide HE).three (unhide B4).size)) ((unhide HS4).stays RNode_kept (unhide BY))).mono ?_
  rintro e w5 ⟨rfl, hb5⟩
  have HBY5 := hide (box_of hb5)
  have H45 : Hid (Below w4.heap.size w4 w5) := (unhide BY).trans (hb5.mono (unhide BY).size)
  have B5 : Hid (Below w.heap.size w w5) := (unhide B4).trans ((unhide H45).mono (unhide B4).size)
  have HBX5 : Hid (Below (w.heap.size + 1) _ w5) := (unhide HBX4).trans ((unhide H45).mono (by have := (unhide HBX4).size; simp at this; omega))
  have HS5 := hide ((unhide HS4).stays RNode_kept (unhide H45))
  have k5 : w5.cell? ⟨w.heap.size, 0, none⟩ = some (.slice b0 ns.length c0) := by rw [box_cell (B := 0) (unhide HBX5) 0]; rfl
  have j5 : w5.cell? ⟨w4.heap.size, 0, none⟩ = some (.slice by4 ns.length cy4) := by rw [box_cell (B := 0) (unhide HBY5) 0]; rfl
  have hz5 : w4.heap.size < w5.heap.size := by have := (unhide HBY5).size; simp at this; omega
  clear hb5
  have sb : ((ptT ns).toList != (ptT ns).toList) = false := by simp
  generalize ptT ns = sh at *
  go_wp2_with fail
  have HTP := hide (toProgram_ok ns _ w5.drew ((unhide H1).stays RNode_kept (unhide B5).drew))
  go_region_with (first | (go_at_call 6; refine (unhide HTP).mono ?_; rintro e w6 ⟨cs6, rfl, ⟨vz, rfl, hS6⟩, hb6⟩; have j6 : w6.cell? ⟨w4.heap.size, 0, none⟩ = some (.slice by4 ns.length cy4) := (hb6.cell (p := ⟨w4.heap.size, 0, none⟩) hz5).trans j5; have HB6 := hide ((unhide B5).drew.trans (hb6.mono (unhide B5).drew.size)); have HE6 := hide (eqProgram_ok ns _ _ w6 ((unhide HS5).stays RNode_kept (Below.trans (Below.drew (Below.refl _ w5)) hb6)) (hS6.lower RNode_lowers (Nat.zero_le _))); clear hS6 hb6) | (go_at_call 8; refine (unhide HE6).mono ?_; rintro e w7 ⟨rfl, hb7⟩))
  all_goals
    go_wp2
    go_ret
    exact ⟨rfl, (unhide HB6).trans (hb7.mono (unhide HB6).size)⟩

end Go.Proofs.YtlgeioedgaajoaaGreatDoor
