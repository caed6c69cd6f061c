import Derived.Test.YtmglbkndjnflkaaGreatDoorData
import Derived.Test.YtmglbkndjnflkaaGreatDoorProg
import Derived.WalkLawsBesides
import Derived.Deep.LoopGhost
import Derived.Deep.RegionWith
import Derived.RegionTactic
import Derived.BigQuiet
import Derived.Deep.QuietTactic
namespace Go.Proofs.YtmglbkndjnflkaaGreatDoor
open Go.RowKit
set_option linter.unusedSimpArgs false
set_option linter.unusedVariables false

/-- It says yes. -/
def YesPost (w : World) (e : Ending) (w' : World) : Prop := e = .returned (.bool true) ∧ Below w.heap.size w w'

set_option maxHeartbeats 400000 in
theorem eqItem_ok (t : DItem) (w : World) :
    Calls Tryz.prog 126 #[.agg #[.int .i64 t.op, .int .i64 t.val, .string t.name], .agg #[.int .i64 t.op, .int .i64 t.val, .string t.name]] w (YesPost w) := by
  obtain ⟨op, val, s⟩ := t
  go_enter Tryz.func126, Tryz.ntmps126
  go_wp2
  go_ret
  exact ⟨rfl, ((Below.refl _ _).alloc (Nat.le_refl _) _).alloc (by simp) _⟩

theorem below_drewN {B : Nat} {w w' : World} (h : Below B w w') (n : Nat) : Below B w (w'.drewN n) := by
  induction n with
  | zero => exact h
  | succ n ih => exact ih.drew

set_option maxHeartbeats 400000 in
theorem eqItemS_ok (xs : List DItem) (v u : Value) (w : World) (hv : SlAt 3 32 RItem 0 w v xs) (hu : SlAt 3 32 RItem 0 w u xs) :
    Calls Tryz.prog 107 #[v, u] w (YesPost w) := by
  obtain ⟨a, cap, rfl, _, hn, hx⟩ := hv
  obtain ⟨a2, cap2, rfl, _, _, hy⟩ := hu
  unfold Len at hn
  have HX := hide hx
  have HY := hide hy
  clear hx hy
  go_enter Tryz.func107, Tryz.ntmps107
  go_wp2
  go_loopg [5] xs.length (fun g i wr => ∃ (k : Nat), k ≤ xs.length ∧ g = xs.length - k ∧ i = .int .i64 k ∧ Below w.heap.size w wr)
  case atStart => exact ⟨0, Nat.zero_le _, by omega, rfl, Below.refl _ _⟩
  case round =>
    obtain ⟨k, hk, hg, rfl, hbl⟩ := hrel
    have HG := hide hg
    clear hg
    by_cases hlt : k < xs.length
    · obtain ⟨b, o, cs, rfl, _, hb, hcs, hc, hR⟩ := unhide HX k hlt
      have hc : ∀ j (hj : j < cs.length), wr.cell? ⟨b, o + k * 3 + j, none⟩ = some cs[j] := fun j hj => by rw [hbl.cell (p := ⟨b, _, none⟩) hb]; exact hc j hj
      obtain ⟨b2, o2, cs2, rfl, _, hb2, hcs2, hc2, hR2⟩ := unhide HY k hlt
      have hc2 : ∀ j (hj : j < cs2.length), wr.cell? ⟨b2, o2 + k * 3 + j, none⟩ = some cs2[j] := fun j hj => by rw [hbl.cell (p := ⟨b2, _, none⟩) hb2]; exact hc2 j hj
      have hR := RItem_kept.stays _ _ _ _ _ hbl.drew hR
      have hR2 := RItem_kept.stays _ _ _ _ _ hbl.drew hR2
      obtain ⟨rfl, hsn, _, _⟩ := hR
      obtain ⟨rfl, hsn2, _, _⟩ := hR2
      have c0 := hc 0 (by simp)
      have d0 := hc2 0 (by simp)
      have c1 := hc 1 (by simp)
      have d1 := hc2 1 (by simp)
      have c2 := hc 2 (by simp)
      have d2 := hc2 2 (by simp)
      simp only [Nat.mul_one, Nat.add_zero, List.getElem_cons_zero, List.getElem_cons_succ] at c0 d0 c1 d1 c2 d2
      clear hc hcs hc2 hcs2
      have hlt' : (k : Int) < (xs.length : Int) := by omega
      go_wp2_with fail
      go_region_with (go_at_call 126; refine (eqItem_ok _ _).mono ?_; rintro e w1 ⟨rfl, hb1⟩)
      all_goals
        go_wp2
        go_roundg (xs.length - (k + 1))
        case measure => have := unhide HG; omega
        case rel => exact ⟨k + 1, by omega, rfl, by go_num, hbl.drew.trans (hb1.mono hbl.drew.size)⟩
    · go_wp2
      go_ret
      exact ⟨rfl, hbl⟩

set_option maxHeartbeats 400000 in
theorem eqStringS_ok (xs : List ByteArray) (v u : Value) (w : World) (hv : SlAt 1 16 RStr 0 w v xs) (hu : SlAt 1 16 RStr 0 w u xs) :
    Calls Tryz.prog 57 #[v, u] w (YesPost w) := by
  obtain ⟨a, cap, rfl, _, hn, hx⟩ := hv
  obtain ⟨a2, cap2, rfl, _, _, hy⟩ := hu
  unfold Len at hn
  have HX := hide hx
  have HY := hide hy
  clear hx hy
  go_enter Tryz.func57, Tryz.ntmps57
  go_wp2
  go_loopg [5] xs.length (fun g i wr => ∃ (k : Nat), k ≤ xs.length ∧ g = xs.length - k ∧ i = .int .i64 k ∧ Below w.heap.size w wr)
  case atStart => exact ⟨0, Nat.zero_le _, by omega, rfl, Below.refl _ _⟩
  case round =>
    obtain ⟨k, hk, hg, rfl, hbl⟩ := hrel
    have HG := hide hg
    clear hg
    by_cases hlt : k < xs.length
    · obtain ⟨b, o, cs, rfl, _, hb, hcs, hc, hR⟩ := unhide HX k hlt
      have hc : ∀ j (hj : j < cs.length), wr.cell? ⟨b, o + k * 1 + j, none⟩ = some cs[j] := fun j hj => by rw [hbl.cell (p := ⟨b, _, none⟩) hb]; exact hc j hj
      obtain ⟨b2, o2, cs2, rfl, _, hb2, hcs2, hc2, hR2⟩ := unhide HY k hlt
      have hc2 : ∀ j (hj : j < cs2.length), wr.cell? ⟨b2, o2 + k * 1 + j, none⟩ = some cs2[j] := fun j hj => by rw [hbl.cell (p := ⟨b2, _, none⟩) hb2]; exact hc2 j hj
      have hR := RStr_kept.stays _ _ _ _ _ hbl.drew hR
      have hR2 := RStr_kept.stays _ _ _ _ _ hbl.drew hR2
      obtain ⟨rfl, hsn⟩ := hR
      obtain ⟨rfl, hsn2⟩ := hR2
      have c0 := hc 0 (by simp)
      have d0 := hc2 0 (by simp)
      simp only [Nat.mul_one, Nat.add_zero, List.getElem_cons_zero, List.getElem_cons_succ] at c0 d0
      clear hc hcs hc2 hcs2
      have hlt' : (k : Int) < (xs.length : Int) := by omega
      go_wp2_with fail
      generalize xs[k] = s at *
      go_quiet (fail)
      go_wp2
      go_roundg (xs.length - (k + 1))
      case measure => have := unhide HG; omega
      case rel => exact ⟨k + 1, by omega, rfl, by go_num, below_drewN hbl _⟩
    · go_wp2
      go_ret
      exact ⟨rfl, hbl⟩

end Go.Proofs.YtmglbkndjnflkaaGreatDoor
namespace Go.Proofs.YtmglbkndjnflkaaGreatDoor
open Go.RowKit
set_option linter.unusedSimpArgs false
set_option linter.unusedVariables false

set_option maxHeartbeats 400000 in
theorem eqItemSS_ok (xs : List (List DItem)) (v u : Value) (w : World) (hv : SlAt 1 24 RItems 0 w v xs) (hu : SlAt 1 24 RItems 0 w u xs) :
    Calls Tryz.prog 108 #[v, u] w (YesPost w) := by
  obtain ⟨a, cap, rfl, _, hn, hx⟩ := hv
  obtain ⟨a2, cap2, rfl, _, _, hy⟩ := hu
  unfold Len at hn
  have HX := hide hx
  have HY := hide hy
  clear hx hy
  go_enter Tryz.func108, Tryz.ntmps108
  go_wp2
  go_loopg [5] xs.length (fun g i wr => ∃ (k : Nat), k ≤ xs.length ∧ g = xs.length - k ∧ i = .int .i64 k ∧ Below w.heap.size w wr)
  case atStart => exact ⟨0, Nat.zero_le _, by omega, rfl, Below.refl _ _⟩
  case round =>
    obtain ⟨k, hk, hg, rfl, hbl⟩ := hrel
    have HG := hide hg
    clear hg
    by_cases hlt : k < xs.length
    · obtain ⟨b, o, cs, rfl, _, hb, hcs, hc, hR⟩ := unhide HX k hlt
      have hc : ∀ j (hj : j < cs.length), wr.cell? ⟨b, o + k * 1 + j, none⟩ = some cs[j] := fun j hj => by rw [hbl.cell (p := ⟨b, _, none⟩) hb]; exact hc j hj
      obtain ⟨b2, o2, cs2, rfl, _, hb2, hcs2, hc2, hR2⟩ := unhide HY k hlt
      have hc2 : ∀ j (hj : j < cs2.length), wr.cell? ⟨b2, o2 + k * 1 + j, none⟩ = some cs2[j] := fun j hj => by rw [hbl.cell (p := ⟨b2, _, none⟩) hb2]; exact hc2 j hj
      have hR := RItems_kept.stays _ _ _ _ _ hbl.drew hR
      have hR2 := RItems_kept.stays _ _ _ _ _ hbl.drew hR2
      obtain ⟨p1, rfl, q1⟩ := hR
      have P1 := hide q1
      clear q1
      obtain ⟨p2, rfl, q2⟩ := hR2
      have P2 := hide q2
      clear q2
      have c0 := hc 0 (by simp)
      have d0 := hc2 0 (by simp)
      simp only [Nat.mul_one, Nat.add_zero, List.getElem_cons_zero, List.getElem_cons_succ] at c0 d0
      clear hc hcs hc2 hcs2
      have hlt' : (k : Int) < (xs.length : Int) := by omega
      go_wp2_with fail
      go_region_with (go_at_call 107; refine (eqItemS_ok _ _ _ _ (unhide P1) (unhide P2)).mono ?_; rintro e w1 ⟨rfl, hb1⟩)
      all_goals
        go_wp2
        go_roundg (xs.length - (k + 1))
        case measure => have := unhide HG; omega
        case rel => exact ⟨k + 1, by omega, rfl, by go_num, hbl.drew.trans (hb1.mono hbl.drew.size)⟩
    · go_wp2
      go_ret
      exact ⟨rfl, hbl⟩

end Go.Proofs.YtmglbkndjnflkaaGreatDoor
namespace Go.Proofs.YtmglbkndjnflkaaGreatDoor
open Go.RowKit
set_option linter.unusedSimpArgs false
set_option linter.unusedVariables false

end Go.Proofs.YtmglbkndjnflkaaGreatDoor
