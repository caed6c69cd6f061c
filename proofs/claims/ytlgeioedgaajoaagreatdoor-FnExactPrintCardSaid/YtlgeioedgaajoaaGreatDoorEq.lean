import Derived.Test.YtlgeioedgaajoaaGreatDoorData
import Derived.Test.YtlgeioedgaajoaaGreatDoorProg
import Derived.WalkLawsBesides
import Derived.Deep.LoopGhost
import Derived.Deep.RegionWith
import Derived.RegionTactic
import Derived.BigQuiet
import Derived.Deep.QuietTactic
namespace Go.Proofs.YtlgeioedgaajoaaGreatDoor
open Go.RowKit
set_option linter.unusedSimpArgs false
set_option linter.unusedVariables false

/-- It says yes. -/
def YesPost (w : World) (e : Ending) (w' : World) : Prop := e = .returned (.bool true) ∧ Below w.heap.size w w'

set_option maxHeartbeats 400000 in
theorem eqCond_ok (c : DCond) (w : World) :
    Calls Tryz.prog 117 #[.agg #[.string c.name, .bool c.on], .agg #[.string c.name, .bool c.on]] w (YesPost w) := by
  obtain ⟨s, on⟩ := c
  go_enter Tryz.func117, Tryz.ntmps117
  go_wp2
  go_ret
  exact ⟨rfl, ((Below.refl _ _).alloc (Nat.le_refl _) _).alloc (by simp) _⟩

set_option maxHeartbeats 400000 in
theorem eqItem_ok (t : DItem) (w : World) :
    Calls Tryz.prog 118 #[.agg #[.int .i64 t.op, .int .i64 t.val, .string t.name], .agg #[.int .i64 t.op, .int .i64 t.val, .string t.name]] w (YesPost w) := by
  obtain ⟨op, val, s⟩ := t
  go_enter Tryz.func118, Tryz.ntmps118
  go_wp2
  go_ret
  exact ⟨rfl, ((Below.refl _ _).alloc (Nat.le_refl _) _).alloc (by simp) _⟩

theorem below_drewN {B : Nat} {w w' : World} (h : Below B w w') (n : Nat) : Below B w (w'.drewN n) := by
  induction n with
  | zero => exact h
  | succ n ih => exact ih.drew

set_option maxHeartbeats 400000 in
theorem eqCondS_ok (xs : List DCond) (v u : Value) (w : World) (hv : SlAt 2 24 RCond 0 w v xs) (hu : SlAt 2 24 RCond 0 w u xs) :
    Calls Tryz.prog 102 #[v, u] w (YesPost w) := by
  obtain ⟨a, cap, rfl, _, hn, hx⟩ := hv
  obtain ⟨a2, cap2, rfl, _, _, hy⟩ := hu
  unfold Len at hn
  have HX := hide hx
  have HY := hide hy
  clear hx hy
  go_enter Tryz.func102, Tryz.ntmps102
  go_wp2
  go_loopg [5] xs.length (fun g i wr => ∃ (k : Nat), k ≤ xs.length ∧ g = xs.length - k ∧ i = .int .i64 k ∧ Below w.heap.size w wr)
  case atStart => exact ⟨0, Nat.zero_le _, by omega, rfl, Below.refl _ _⟩
  case round =>
    obtain ⟨k, hk, hg, rfl, hbl⟩ := hrel
    have HG := hide hg
    clear hg
    by_cases hlt : k < xs.length
    · obtain ⟨b, o, cs, rfl, _, hb, hcs, hc, hR⟩ := unhide HX k hlt
      have hc : ∀ j (hj : j < cs.length), wr.cell? ⟨b, o + k * 2 + j, none⟩ = some cs[j] := fun j hj => by rw [hbl.cell (p := ⟨b, _, none⟩) hb]; exact hc j hj
      obtain ⟨b2, o2, cs2, rfl, _, hb2, hcs2, hc2, hR2⟩ := unhide HY k hlt
      have hc2 : ∀ j (hj : j < cs2.length), wr.cell? ⟨b2, o2 + k * 2 + j, none⟩ = some cs2[j] := fun j hj => by rw [hbl.cell (p := ⟨b2, _, none⟩) hb2]; exact hc2 j hj
      have hR := RCond_kept.stays _ _ _ _ _ hbl.drew hR
      have hR2 := RCond_kept.stays _ _ _ _ _ hbl.drew hR2
      obtain ⟨rfl, hsn⟩ := hR
      obtain ⟨rfl, hsn2⟩ := hR2
      have c0 := hc 0 (by simp)
      have d0 := hc2 0 (by simp)
      have c1 := hc 1 (by simp)
      have d1 := hc2 1 (by simp)
      simp only [Nat.mul_one, Nat.add_zero, List.getElem_cons_zero, List.getElem_cons_succ] at c0 d0 c1 d1
      clear hc hcs hc2 hcs2
      have hlt' : (k : Int) < (xs.length : Int) := by omega
      go_wp2_with fail
      go_region_with (go_at_call 117; refine (eqCond_ok _ _).mono ?_; rintro e w1 ⟨rfl, hb1⟩)
      all_goals
        go_wp2
        go_roundg (xs.length - (k + 1))
        case measure => have := unhide HG; omega
        case rel => exact ⟨k + 1, by omega, rfl, by go_num, hbl.drew.trans (hb1.mono hbl.drew.size)⟩
    · go_wp2
      go_ret
      exact ⟨rfl, hbl⟩

set_option maxHeartbeats 400000 in
theorem eqItemS_ok (xs : List DItem) (v u : Value) (w : World) (hv : SlAt 3 32 RItem 0 w v xs) (hu : SlAt 3 32 RItem 0 w u xs) :
    Calls Tryz.prog 104 #[v, u] w (YesPost w) := by
  obtain ⟨a, cap, rfl, _, hn, hx⟩ := hv
  obtain ⟨a2, cap2, rfl, _, _, hy⟩ := hu
  unfold Len at hn
  have HX := hide hx
  have HY := hide hy
  clear hx hy
  go_enter Tryz.func104, Tryz.ntmps104
  go_wp2
  go_loopg [5] xs.length (fun g i wr => ∃ (k : Nat), k ≤ xs.length ∧ g = xs.length - k ∧ i = .int .i64 k ∧ Below w.heap.size w wr)
  case atStart => exact ⟨0, Nat.zero_le _, by omega, rfl, Below.refl _ _⟩
  case round =>
    obtain ⟨k, hk, hg, rfl, hbl⟩ := hrel
    have HG := hide hg
    clear hg
    by_cases hlt : k < xs.length
    · obtain ⟨b, o, cs, rfl, _, hb, hcs, hc, hR⟩ := unhide HX k hlt
      have hc : ∀ j (hj : j < cs.length), wr.cell? ⟨b, o + k * 3 + j, none⟩ = some cs[j] := fun j hj => by rw [hbl.cell (p := ⟨b, _, none⟩) hb]; exact hc j hj
      obtain ⟨b2, o2, cs2, rfl, _, hb2, hcs2, hc2, hR2⟩ := unhide HY k hlt
      have hc2 : ∀ j (hj : j < cs2.length), wr.cell? ⟨b2, o2 + k * 3 + j, none⟩ = some cs2[j] := fun j hj => by rw [hbl.cell (p := ⟨b2, _, none⟩) hb2]; exact hc2 j hj
      have hR := RItem_kept.stays _ _ _ _ _ hbl.drew hR
      have hR2 := RItem_kept.stays _ _ _ _ _ hbl.drew hR2
      obtain ⟨rfl, hsn, _, _⟩ := hR
      obtain ⟨rfl, hsn2, _, _⟩ := hR2
      have c0 := hc 0 (by simp)
      have d0 := hc2 0 (by simp)
      have c1 := hc 1 (by simp)
      have d1 := hc2 1 (by simp)
      have c2 := hc 2 (by simp)
      have d2 := hc2 2 (by simp)
      simp only [Nat.mul_one, Nat.add_zero, List.getElem_cons_zero, List.getElem_cons_succ] at c0 d0 c1 d1 c2 d2
      clear hc hcs hc2 hcs2
      have hlt' : (k : Int) < (xs.length : Int) := by omega
      go_wp2_with fail
      go_region_with (go_at_call 118; refine (eqItem_ok _ _).mono ?_; rintro e w1 ⟨rfl, hb1⟩)
      all_goals
        go_wp2
        go_roundg (xs.length - (k + 1))
        case measure => have := unhide HG; omega
        case rel => exact ⟨k + 1, by omega, rfl, by go_num, hbl.drew.trans (hb1.mono hbl.drew.size)⟩
    · go_wp2
      go_ret
      exact ⟨rfl, hbl⟩

set_option maxHeartbeats 400000 in
theorem eqStringS_ok (xs : List ByteArray) (v u : Value) (w : World) (hv : SlAt 1 16 RStr 0 w v xs) (hu : SlAt 1 16 RStr 0 w u xs) :
    Calls Tryz.prog 103 #[v, u] w (YesPost w) := by
  obtain ⟨a, cap, rfl, _, hn, hx⟩ := hv
  obtain ⟨a2, cap2, rfl, _, _, hy⟩ := hu
  unfold Len at hn
  have HX := hide hx
  have HY := hide hy
  clear hx hy
  go_enter Tryz.func103, Tryz.ntmps103
  go_wp2
  go_loopg [5] xs.length (fun g i wr => ∃ (k : Nat), k ≤ xs.length ∧ g = xs.length - k ∧ i = .int .i64 k ∧ Below w.heap.size w wr)
  case atStart => exact ⟨0, Nat.zero_le _, by omega, rfl, Below.refl _ _⟩
  case round =>
    obtain ⟨k, hk, hg, rfl, hbl⟩ := hrel
    have HG := hide hg
    clear hg
    by_cases hlt : k < xs.length
    · obtain ⟨b, o, cs, rfl, _, hb, hcs, hc, hR⟩ := unhide HX k hlt
      have hc : ∀ j (hj : j < cs.length), wr.cell? ⟨b, o + k * 1 + j, none⟩ = some cs[j] := fun j hj => by rw [hbl.cell (p := ⟨b, _, none⟩) hb]; exact hc j hj
      obtain ⟨b2, o2, cs2, rfl, _, hb2, hcs2, hc2, hR2⟩ := unhide HY k hlt
      have hc2 : ∀ j (hj : j < cs2.length), wr.cell? ⟨b2, o2 + k * 1 + j, none⟩ = some cs2[j] := fun j hj => by rw [hbl.cell (p := ⟨b2, _, none⟩) hb2]; exact hc2 j hj
      have hR := RStr_kept.stays _ _ _ _ _ hbl.drew hR
      have hR2 := RStr_kept.stays _ _ _ _ _ hbl.drew hR2
      obtain ⟨rfl, hsn⟩ := hR
      obtain ⟨rfl, hsn2⟩ := hR2
      have c0 := hc 0 (by simp)
      have d0 := hc2 0 (by simp)
      simp only [Nat.mul_one, Nat.add_zero, List.getElem_cons_zero, List.getElem_cons_succ] at c0 d0
      clear hc hcs hc2 hcs2
      have hlt' : (k : Int) < (xs.length : Int) := by omega
      go_wp2_with fail
      generalize xs[k] = s at *
      go_quiet (fail)
      go_wp2
      go_roundg (xs.length - (k + 1))
      case measure => have := unhide HG; omega
      case rel => exact ⟨k + 1, by omega, rfl, by go_num, below_drewN hbl _⟩
    · go_wp2
      go_ret
      exact ⟨rfl, hbl⟩

end Go.Proofs.YtlgeioedgaajoaaGreatDoor
namespace Go.Proofs.YtlgeioedgaajoaaGreatDoor
open Go.RowKit
set_option linter.unusedSimpArgs false
set_option linter.unusedVariables false

set_option maxHeartbeats 1000000 in
theorem eqVar_ok (x : DVar) (a1 b1 : Value) (w : World) (h1 : SlAt 2 24 RCond 0 w a1 x.clock) (g1 : SlAt 2 24 RCond 0 w b1 x.clock) :
    Calls Tryz.prog 80 #[.agg #[.string x.name, .int .i64 x.type, a1], .agg #[.string x.name, .int .i64 x.type, b1]] w (YesPost w) := by
  obtain ⟨s, ty, clk⟩ := x
  simp only at h1 g1
  have H1 := hide h1
  have G1 := hide g1
  clear h1 g1
  go_enter Tryz.func80, Tryz.ntmps80
  have B0 : Below w.heap.size w ((w.alloc (.cells _ _)).alloc (.cells _ _)) := ((Below.refl w.heap.size w).alloc (Nat.le_refl _) (.cells #[.string s, .int .i64 ty, a1] 64)).alloc (by simp) (.cells #[.string s, .int .i64 ty, b1] 64)
  go_wp2_with fail
  refine (eqCondS_ok clk _ _ _ ?_ ?_).mono ?_
  · exact (unhide H1).stays RCond_kept B0
  · exact (unhide G1).stays RCond_kept B0
  rintro e w1 ⟨rfl, hb⟩
  obtain ⟨hc1, hf1⟩ := bcell hb
  have hz := hb.size
  have B1 : Below w.heap.size w w1 := B0.trans (hb.mono B0.size)
  try simp only [World.size_alloc] at hz hc1 hf1
  have hza1 : w.heap.size < w1.heap.size := by omega
  have hzb1 : w.heap.size + 1 < w1.heap.size := by omega
  clear hb hz
  go_wp2
  go_ret
  exact ⟨rfl, B1⟩

set_option maxHeartbeats 400000 in
theorem eqItemSS_ok (xs : List (List DItem)) (v u : Value) (w : World) (hv : SlAt 1 24 RItems 0 w v xs) (hu : SlAt 1 24 RItems 0 w u xs) :
    Calls Tryz.prog 105 #[v, u] w (YesPost w) := by
  obtain ⟨a, cap, rfl, _, hn, hx⟩ := hv
  obtain ⟨a2, cap2, rfl, _, _, hy⟩ := hu
  unfold Len at hn
  have HX := hide hx
  have HY := hide hy
  clear hx hy
  go_enter Tryz.func105, Tryz.ntmps105
  go_wp2
  go_loopg [5] xs.length (fun g i wr => ∃ (k : Nat), k ≤ xs.length ∧ g = xs.length - k ∧ i = .int .i64 k ∧ Below w.heap.size w wr)
  case atStart => exact ⟨0, Nat.zero_le _, by omega, rfl, Below.refl _ _⟩
  case round =>
    obtain ⟨k, hk, hg, rfl, hbl⟩ := hrel
    have HG := hide hg
    clear hg
    by_cases hlt : k < xs.length
    · obtain ⟨b, o, cs, rfl, _, hb, hcs, hc, hR⟩ := unhide HX k hlt
      have hc : ∀ j (hj : j < cs.length), wr.cell? ⟨b, o + k * 1 + j, none⟩ = some cs[j] := fun j hj => by rw [hbl.cell (p := ⟨b, _, none⟩) hb]; exact hc j hj
      obtain ⟨b2, o2, cs2, rfl, _, hb2, hcs2, hc2, hR2⟩ := unhide HY k hlt
      have hc2 : ∀ j (hj : j < cs2.length), wr.cell? ⟨b2, o2 + k * 1 + j, none⟩ = some cs2[j] := fun j hj => by rw [hbl.cell (p := ⟨b2, _, none⟩) hb2]; exact hc2 j hj
      have hR := RItems_kept.stays _ _ _ _ _ hbl.drew hR
      have hR2 := RItems_kept.stays _ _ _ _ _ hbl.drew hR2
      obtain ⟨p1, rfl, q1⟩ := hR
      have P1 := hide q1
      clear q1
      obtain ⟨p2, rfl, q2⟩ := hR2
      have P2 := hide q2
      clear q2
      have c0 := hc 0 (by simp)
      have d0 := hc2 0 (by simp)
      simp only [Nat.mul_one, Nat.add_zero, List.getElem_cons_zero, List.getElem_cons_succ] at c0 d0
      clear hc hcs hc2 hcs2
      have hlt' : (k : Int) < (xs.length : Int) := by omega
      go_wp2_with fail
      go_region_with (go_at_call 104; refine (eqItemS_ok _ _ _ _ (unhide P1) (unhide P2)).mono ?_; rintro e w1 ⟨rfl, hb1⟩)
      all_goals
        go_wp2
        go_roundg (xs.length - (k + 1))
        case measure => have := unhide HG; omega
        case rel => exact ⟨k + 1, by omega, rfl, by go_num, hbl.drew.trans (hb1.mono hbl.drew.size)⟩
    · go_wp2
      go_ret
      exact ⟨rfl, hbl⟩

set_option maxHeartbeats 400000 in
theorem eqVarS_ok (xs : List DVar) (v u : Value) (w : World) (hv : SlAt 3 48 RVar 0 w v xs) (hu : SlAt 3 48 RVar 0 w u xs) :
    Calls Tryz.prog 55 #[v, u] w (YesPost w) := by
  obtain ⟨a, cap, rfl, _, hn, hx⟩ := hv
  obtain ⟨a2, cap2, rfl, _, _, hy⟩ := hu
  unfold Len at hn
  have HX := hide hx
  have HY := hide hy
  clear hx hy
  go_enter Tryz.func55, Tryz.ntmps55
  go_wp2
  go_loopg [5] xs.length (fun g i wr => ∃ (k : Nat), k ≤ xs.length ∧ g = xs.length - k ∧ i = .int .i64 k ∧ Below w.heap.size w wr)
  case atStart => exact ⟨0, Nat.zero_le _, by omega, rfl, Below.refl _ _⟩
  case round =>
    obtain ⟨k, hk, hg, rfl, hbl⟩ := hrel
    have HG := hide hg
    clear hg
    by_cases hlt : k < xs.length
    · obtain ⟨b, o, cs, rfl, _, hb, hcs, hc, hR⟩ := unhide HX k hlt
      have hc : ∀ j (hj : j < cs.length), wr.cell? ⟨b, o + k * 3 + j, none⟩ = some cs[j] := fun j hj => by rw [hbl.cell (p := ⟨b, _, none⟩) hb]; exact hc j hj
      obtain ⟨b2, o2, cs2, rfl, _, hb2, hcs2, hc2, hR2⟩ := unhide HY k hlt
      have hc2 : ∀ j (hj : j < cs2.length), wr.cell? ⟨b2, o2 + k * 3 + j, none⟩ = some cs2[j] := fun j hj => by rw [hbl.cell (p := ⟨b2, _, none⟩) hb2]; exact hc2 j hj
      have hR := RVar_kept.stays _ _ _ _ _ hbl.drew hR
      have hR2 := RVar_kept.stays _ _ _ _ _ hbl.drew hR2
      obtain ⟨p1, rfl, _, _, q1⟩ := hR
      have P1 := hide q1
      clear q1
      obtain ⟨p2, rfl, _, _, q2⟩ := hR2
      have P2 := hide q2
      clear q2
      have c0 := hc 0 (by simp)
      have d0 := hc2 0 (by simp)
      have c1 := hc 1 (by simp)
      have d1 := hc2 1 (by simp)
      have c2 := hc 2 (by simp)
      have d2 := hc2 2 (by simp)
      simp only [Nat.mul_one, Nat.add_zero, List.getElem_cons_zero, List.getElem_cons_succ] at c0 d0 c1 d1 c2 d2
      clear hc hcs hc2 hcs2
      have hlt' : (k : Int) < (xs.length : Int) := by omega
      go_wp2_with fail
      go_region_with (go_at_call 80; refine (eqVar_ok _ _ _ _ (unhide P1) (unhide P2)).mono ?_; rintro e w1 ⟨rfl, hb1⟩)
      all_goals
        go_wp2
        go_roundg (xs.length - (k + 1))
        case measure => have := unhide HG; omega
        case rel => exact ⟨k + 1, by omega, rfl, by go_num, hbl.drew.trans (hb1.mono hbl.drew.size)⟩
    · go_wp2
      go_ret
      exact ⟨rfl, hbl⟩

set_option maxHeartbeats 1000000 in
theorem eqEquation_ok (x : DEq) (a1 b1 a2 b2 a3 b3 : Value) (w : World) (h1 : SlAt 1 16 RStr 0 w a1 x.lhs) (g1 : SlAt 1 16 RStr 0 w b1 x.lhs) (h2 : SlAt 3 32 RItem 0 w a2 x.code) (g2 : SlAt 3 32 RItem 0 w b2 x.code) (h3 : SlAt 1 24 RItems 0 w a3 x.args) (g3 : SlAt 1 24 RItems 0 w b3 x.args) :
    Calls Tryz.prog 81 #[.agg #[a1, a2, .string x.call, a3], .agg #[b1, b2, .string x.call, b3]] w (YesPost w) := by
  obtain ⟨lhs, code, s, args⟩ := x
  simp only at h1 g1 h2 g2 h3 g3
  have H1 := hide h1
  have G1 := hide g1
  clear h1 g1
  have H2 := hide h2
  have G2 := hide g2
  clear h2 g2
  have H3 := hide h3
  have G3 := hide g3
  clear h3 g3
  go_enter Tryz.func81, Tryz.ntmps81
  have B0 : Below w.heap.size w ((w.alloc (.cells _ _)).alloc (.cells _ _)) := ((Below.refl w.heap.size w).alloc (Nat.le_refl _) (.cells #[a1, a2, .string s, a3] 45)).alloc (by simp) (.cells #[b1, b2, .string s, b3] 45)
  go_wp2_with fail
  refine (eqStringS_ok lhs _ _ _ ?_ ?_).mono ?_
  · exact (unhide H1).stays RStr_kept B0
  · exact (unhide G1).stays RStr_kept B0
  rintro e w1 ⟨rfl, hb⟩
  obtain ⟨hc1, hf1⟩ := bcell hb
  have hz := hb.size
  have B1 : Below w.heap.size w w1 := B0.trans (hb.mono B0.size)
  try simp only [World.size_alloc] at hz hc1 hf1
  have hza1 : w.heap.size < w1.heap.size := by omega
  have hzb1 : w.heap.size + 1 < w1.heap.size := by omega
  clear hb hz
  go_wp2_with fail
  refine (eqItemS_ok code _ _ _ ?_ ?_).mono ?_
  · exact (unhide H2).stays RItem_kept B1
  · exact (unhide G2).stays RItem_kept B1
  rintro e w2 ⟨rfl, hb⟩
  obtain ⟨hc2, hf2⟩ := bcell hb
  have hz := hb.size
  have B2 : Below w.heap.size w w2 := B1.trans (hb.mono B1.size)
  try simp only [World.size_alloc] at hz hc2 hf2
  have hza2 : w.heap.size < w2.heap.size := by omega
  have hzb2 : w.heap.size + 1 < w2.heap.size := by omega
  clear hb hz
  go_wp2_with fail
  refine (eqItemSS_ok args _ _ _ ?_ ?_).mono ?_
  · exact (unhide H3).stays RItems_kept B2
  · exact (unhide G3).stays RItems_kept B2
  rintro e w3 ⟨rfl, hb⟩
  obtain ⟨hc3, hf3⟩ := bcell hb
  have hz := hb.size
  have B3 : Below w.heap.size w w3 := B2.trans (hb.mono B2.size)
  try simp only [World.size_alloc] at hz hc3 hf3
  have hza3 : w.heap.size < w3.heap.size := by omega
  have hzb3 : w.heap.size + 1 < w3.heap.size := by omega
  clear hb hz
  go_wp2
  go_ret
  exact ⟨rfl, B3⟩

end Go.Proofs.YtlgeioedgaajoaaGreatDoor
namespace Go.Proofs.YtlgeioedgaajoaaGreatDoor
open Go.RowKit
set_option linter.unusedSimpArgs false
set_option linter.unusedVariables false

set_option maxHeartbeats 400000 in
theorem eqEquationS_ok (xs : List DEq) (v u : Value) (w : World) (hv : SlAt 4 88 REq 0 w v xs) (hu : SlAt 4 88 REq 0 w u xs) :
    Calls Tryz.prog 56 #[v, u] w (YesPost w) := by
  obtain ⟨a, cap, rfl, _, hn, hx⟩ := hv
  obtain ⟨a2, cap2, rfl, _, _, hy⟩ := hu
  unfold Len at hn
  have HX := hide hx
  have HY := hide hy
  clear hx hy
  go_enter Tryz.func56, Tryz.ntmps56
  go_wp2
  go_loopg [5] xs.length (fun g i wr => ∃ (k : Nat), k ≤ xs.length ∧ g = xs.length - k ∧ i = .int .i64 k ∧ Below w.heap.size w wr)
  case atStart => exact ⟨0, Nat.zero_le _, by omega, rfl, Below.refl _ _⟩
  case round =>
    obtain ⟨k, hk, hg, rfl, hbl⟩ := hrel
    have HG := hide hg
    clear hg
    by_cases hlt : k < xs.length
    · obtain ⟨b, o, cs, rfl, _, hb, hcs, hc, hR⟩ := unhide HX k hlt
      have hc : ∀ j (hj : j < cs.length), wr.cell? ⟨b, o + k * 4 + j, none⟩ = some cs[j] := fun j hj => by rw [hbl.cell (p := ⟨b, _, none⟩) hb]; exact hc j hj
      obtain ⟨b2, o2, cs2, rfl, _, hb2, hcs2, hc2, hR2⟩ := unhide HY k hlt
      have hc2 : ∀ j (hj : j < cs2.length), wr.cell? ⟨b2, o2 + k * 4 + j, none⟩ = some cs2[j] := fun j hj => by rw [hbl.cell (p := ⟨b2, _, none⟩) hb2]; exact hc2 j hj
      have hR := REq_kept.stays _ _ _ _ _ hbl.drew hR
      have hR2 := REq_kept.stays _ _ _ _ _ hbl.drew hR2
      obtain ⟨l1, c1, a1, rfl, _, p1, p2, p3⟩ := hR
      have P1 := hide p1
      clear p1
      have P2 := hide p2
      clear p2
      have P3 := hide p3
      clear p3
      obtain ⟨l2, c2, a2, rfl, _, q1, q2, q3⟩ := hR2
      have Q1 := hide q1
      clear q1
      have Q2 := hide q2
      clear q2
      have Q3 := hide q3
      clear q3
      have c0 := hc 0 (by simp)
      have d0 := hc2 0 (by simp)
      have c1 := hc 1 (by simp)
      have d1 := hc2 1 (by simp)
      have c2 := hc 2 (by simp)
      have d2 := hc2 2 (by simp)
      have c3 := hc 3 (by simp)
      have d3 := hc2 3 (by simp)
      simp only [Nat.mul_one, Nat.add_zero, List.getElem_cons_zero, List.getElem_cons_succ] at c0 d0 c1 d1 c2 d2 c3 d3
      clear hc hcs hc2 hcs2
      have hlt' : (k : Int) < (xs.length : Int) := by omega
      go_wp2_with fail
      go_region_with (go_at_call 81; refine (eqEquation_ok _ _ _ _ _ _ _ _ (unhide P1) (unhide Q1) (unhide P2) (unhide Q2) (unhide P3) (unhide Q3)).mono ?_; rintro e w1 ⟨rfl, hb1⟩)
      all_goals
        go_wp2
        go_roundg (xs.length - (k + 1))
        case measure => have := unhide HG; omega
        case rel => exact ⟨k + 1, by omega, rfl, by go_num, hbl.drew.trans (hb1.mono hbl.drew.size)⟩
    · go_wp2
      go_ret
      exact ⟨rfl, hbl⟩

set_option maxHeartbeats 1000000 in
theorem eqNode_ok (x : DNode) (a1 b1 a2 b2 a3 b3 a4 b4 : Value) (w : World) (h1 : SlAt 3 48 RVar 0 w a1 x.ins) (g1 : SlAt 3 48 RVar 0 w b1 x.ins) (h2 : SlAt 3 48 RVar 0 w a2 x.outs) (g2 : SlAt 3 48 RVar 0 w b2 x.outs) (h3 : SlAt 3 48 RVar 0 w a3 x.vars) (g3 : SlAt 3 48 RVar 0 w b3 x.vars) (h4 : SlAt 4 88 REq 0 w a4 x.eqs) (g4 : SlAt 4 88 REq 0 w b4 x.eqs) :
    Calls Tryz.prog 34 #[.agg #[.string x.name, a1, a2, a3, a4], .agg #[.string x.name, b1, b2, b3, b4]] w (YesPost w) := by
  obtain ⟨s, ins, outs, vars, eqs⟩ := x
  simp only at h1 g1 h2 g2 h3 g3 h4 g4
  have H1 := hide h1
  have G1 := hide g1
  clear h1 g1
  have H2 := hide h2
  have G2 := hide g2
  clear h2 g2
  have H3 := hide h3
  have G3 := hide g3
  clear h3 g3
  have H4 := hide h4
  have G4 := hide g4
  clear h4 g4
  go_enter Tryz.func34, Tryz.ntmps34
  have B0 : Below w.heap.size w ((w.alloc (.cells _ _)).alloc (.cells _ _)) := ((Below.refl w.heap.size w).alloc (Nat.le_refl _) (.cells #[.string s, a1, a2, a3, a4] 38)).alloc (by simp) (.cells #[.string s, b1, b2, b3, b4] 38)
  go_wp2_with fail
  refine (eqVarS_ok ins _ _ _ ?_ ?_).mono ?_
  · exact (unhide H1).stays RVar_kept B0
  · exact (unhide G1).stays RVar_kept B0
  rintro e w1 ⟨rfl, hb⟩
  obtain ⟨hc1, hf1⟩ := bcell hb
  have hz := hb.size
  have B1 : Below w.heap.size w w1 := B0.trans (hb.mono B0.size)
  try simp only [World.size_alloc] at hz hc1 hf1
  have hza1 : w.heap.size < w1.heap.size := by omega
  have hzb1 : w.heap.size + 1 < w1.heap.size := by omega
  clear hb hz
  go_wp2_with fail
  refine (eqVarS_ok outs _ _ _ ?_ ?_).mono ?_
  · exact (unhide H2).stays RVar_kept B1
  · exact (unhide G2).stays RVar_kept B1
  rintro e w2 ⟨rfl, hb⟩
  obtain ⟨hc2, hf2⟩ := bcell hb
  have hz := hb.size
  have B2 : Below w.heap.size w w2 := B1.trans (hb.mono B1.size)
  try simp only [World.size_alloc] at hz hc2 hf2
  have hza2 : w.heap.size < w2.heap.size := by omega
  have hzb2 : w.heap.size + 1 < w2.heap.size := by omega
  clear hb hz
  go_wp2_with fail
  refine (eqVarS_ok vars _ _ _ ?_ ?_).mono ?_
  · exact (unhide H3).stays RVar_kept B2
  · exact (unhide G3).stays RVar_kept B2
  rintro e w3 ⟨rfl, hb⟩
  obtain ⟨hc3, hf3⟩ := bcell hb
  have hz := hb.size
  have B3 : Below w.heap.size w w3 := B2.trans (hb.mono B2.size)
  try simp only [World.size_alloc] at hz hc3 hf3
  have hza3 : w.heap.size < w3.heap.size := by omega
  have hzb3 : w.heap.size + 1 < w3.heap.size := by omega
  clear hb hz
  go_wp2_with fail
  refine (eqEquationS_ok eqs _ _ _ ?_ ?_).mono ?_
  · exact (unhide H4).stays REq_kept B3
  · exact (unhide G4).stays REq_kept B3
  rintro e w4 ⟨rfl, hb⟩
  obtain ⟨hc4, hf4⟩ := bcell hb
  have hz := hb.size
  have B4 : Below w.heap.size w w4 := B3.trans (hb.mono B3.size)
  try simp only [World.size_alloc] at hz hc4 hf4
  have hza4 : w.heap.size < w4.heap.size := by omega
  have hzb4 : w.heap.size + 1 < w4.heap.size := by omega
  clear hb hz
  go_wp2
  go_ret
  exact ⟨rfl, B4⟩

set_option maxHeartbeats 400000 in
theorem eqNodeS_ok (xs : List DNode) (v u : Value) (w : World) (hv : SlAt 5 112 RNode 0 w v xs) (hu : SlAt 5 112 RNode 0 w u xs) :
    Calls Tryz.prog 18 #[v, u] w (YesPost w) := by
  obtain ⟨a, cap, rfl, _, hn, hx⟩ := hv
  obtain ⟨a2, cap2, rfl, _, _, hy⟩ := hu
  unfold Len at hn
  have HX := hide hx
  have HY := hide hy
  clear hx hy
  go_enter Tryz.func18, Tryz.ntmps18
  go_wp2
  go_loopg [5] xs.length (fun g i wr => ∃ (k : Nat), k ≤ xs.length ∧ g = xs.length - k ∧ i = .int .i64 k ∧ Below w.heap.size w wr)
  case atStart => exact ⟨0, Nat.zero_le _, by omega, rfl, Below.refl _ _⟩
  case round =>
    obtain ⟨k, hk, hg, rfl, hbl⟩ := hrel
    have HG := hide hg
    clear hg
    by_cases hlt : k < xs.length
    · obtain ⟨b, o, cs, rfl, _, hb, hcs, hc, hR⟩ := unhide HX k hlt
      have hc : ∀ j (hj : j < cs.length), wr.cell? ⟨b, o + k * 5 + j, none⟩ = some cs[j] := fun j hj => by rw [hbl.cell (p := ⟨b, _, none⟩) hb]; exact hc j hj
      obtain ⟨b2, o2, cs2, rfl, _, hb2, hcs2, hc2, hR2⟩ := unhide HY k hlt
      have hc2 : ∀ j (hj : j < cs2.length), wr.cell? ⟨b2, o2 + k * 5 + j, none⟩ = some cs2[j] := fun j hj => by rw [hbl.cell (p := ⟨b2, _, none⟩) hb2]; exact hc2 j hj
      have hR := RNode_kept.stays _ _ _ _ _ hbl.drew hR
      have hR2 := RNode_kept.stays _ _ _ _ _ hbl.drew hR2
      obtain ⟨i1, o1, v1, e1, rfl, _, p1, p2, p3, p4⟩ := hR
      have P1 := hide p1
      clear p1
      have P2 := hide p2
      clear p2
      have P3 := hide p3
      clear p3
      have P4 := hide p4
      clear p4
      obtain ⟨i2, o2, v2, e2, rfl, _, q1, q2, q3, q4⟩ := hR2
      have Q1 := hide q1
      clear q1
      have Q2 := hide q2
      clear q2
      have Q3 := hide q3
      clear q3
      have Q4 := hide q4
      clear q4
      have c0 := hc 0 (by simp)
      have d0 := hc2 0 (by simp)
      have c1 := hc 1 (by simp)
      have d1 := hc2 1 (by simp)
      have c2 := hc 2 (by simp)
      have d2 := hc2 2 (by simp)
      have c3 := hc 3 (by simp)
      have d3 := hc2 3 (by simp)
      have c4 := hc 4 (by simp)
      have d4 := hc2 4 (by simp)
      simp only [Nat.mul_one, Nat.add_zero, List.getElem_cons_zero, List.getElem_cons_succ] at c0 d0 c1 d1 c2 d2 c3 d3 c4 d4
      clear hc hcs hc2 hcs2
      have hlt' : (k : Int) < (xs.length : Int) := by omega
      go_wp2_with fail
      go_region_with (go_at_call 34; refine (eqNode_ok _ _ _ _ _ _ _ _ _ _ (unhide P1) (unhide Q1) (unhide P2) (unhide Q2) (unhide P3) (unhide Q3) (unhide P4) (unhide Q4)).mono ?_; rintro e w1 ⟨rfl, hb1⟩)
      all_goals
        go_wp2
        go_roundg (xs.length - (k + 1))
        case measure => have := unhide HG; omega
        case rel => exact ⟨k + 1, by omega, rfl, by go_num, hbl.drew.trans (hb1.mono hbl.drew.size)⟩
    · go_wp2
      go_ret
      exact ⟨rfl, hbl⟩

set_option maxHeartbeats 400000 in
theorem eqProgram_ok (ns : List DNode) (v u : Value) (w : World) (h1 : SlAt 5 112 RNode 0 w v ns) (g1 : SlAt 5 112 RNode 0 w u ns) :
    Calls Tryz.prog 8 #[.agg #[v], .agg #[u]] w (YesPost w) := by
  have H1 := hide h1
  have G1 := hide g1
  clear h1 g1
  have B0 : Below w.heap.size w ((w.alloc (.cells _ _)).alloc (.cells _ _)) := ((Below.refl w.heap.size w).alloc (Nat.le_refl _) (.cells #[v] 29)).alloc (by simp) (.cells #[u] 29)
  go_enter Tryz.func8, Tryz.ntmps8
  go_wp2_with fail
  refine (eqNodeS_ok ns _ _ _ ?_ ?_).mono ?_
  · exact (unhide H1).stays RNode_kept B0
  · exact (unhide G1).stays RNode_kept B0
  rintro e w1 ⟨rfl, hb⟩
  have B1 : Below w.heap.size w w1 := B0.trans (hb.mono B0.size)
  go_wp2
  go_ret
  exact ⟨rfl, B1⟩

end Go.Proofs.YtlgeioedgaajoaaGreatDoor
