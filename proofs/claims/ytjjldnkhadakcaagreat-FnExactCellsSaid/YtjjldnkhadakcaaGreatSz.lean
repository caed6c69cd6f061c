import Derived.Test.YtjjldnkhadakcaaGreatData
import Derived.Test.YtjjldnkhadakcaaGreatProg
import Derived.WalkLawsBesides
import Derived.Deep.LoopGhost
namespace Go.Proofs.YtjjldnkhadakcaaGreat
open Go.RowKit
set_option linter.unusedSimpArgs false
set_option linter.unusedVariables false

/-- What a call that reckons a weight answers: -1, or what is left. -/
def SzPost (w : World) (left : Int) (wt : Nat) (e : Ending) (w' : World) : Prop :=
  ∃ r : Int, e = .returned (.int .i64 r) ∧ (r = -1 ∨ 0 ≤ r ∧ r + wt ≤ left) ∧ Below w.heap.size w w'

theorem szItem_ok (t : DItem) (left : Int) (w : World) (hs : Len t.name.size) (hl : 0 ≤ left) (hl2 : left ≤ 1048576) :
    Calls Tryz.prog 133 #[.agg #[.int .i64 t.op, .int .i64 t.val, .string t.name], .int .i64 left] w (SzPost w left (wItem t)) := by
  obtain ⟨op, val, s⟩ := t
  unfold Len at hs
  simp only at hs
  by_cases h : left - s.size < 0
  all_goals
    go_enter Tryz.func133, Tryz.ntmps133
    go_wp2
    go_ret
  · exact ⟨_, rfl, Or.inl rfl, (Below.refl _ _).alloc (Nat.le_refl _) _⟩
  · exact ⟨_, rfl, Or.inr ⟨by omega, by simp only [wItem]; omega⟩, (Below.refl _ _).alloc (Nat.le_refl _) _⟩

set_option maxHeartbeats 400000 in
theorem szItemS_ok (xs : List DItem) (v : Value) (left : Int) (w : World) (hv : SlAt 3 32 RItem 0 w v xs) (hl : 0 ≤ left) (hl2 : left ≤ 1048576) :
    Calls Tryz.prog 113 #[v, .int .i64 left] w (SzPost w left (wSum wItem xs)) := by
  obtain ⟨a, cap, rfl, _, hn, hx⟩ := hv
  unfold Len at hn
  have HX := hide hx
  clear hx
  by_cases h : left - xs.length < 0
  · go_enter Tryz.func113, Tryz.ntmps113
    go_wp2
    go_ret
    exact ⟨_, rfl, Or.inl rfl, Below.refl _ _⟩
  · go_enter Tryz.func113, Tryz.ntmps113
    go_wp2
    go_loopg [1, 5] xs.length (fun g l i wr => ∃ (k : Nat) (r : Int), k ≤ xs.length ∧ g = xs.length - k ∧ i = .int .i64 k ∧ l = .int .i64 r ∧ 0 ≤ r ∧ r ≤ left - xs.length - wTo wItem xs k ∧ Below w.heap.size w wr)
    case atStart => exact ⟨0, left - xs.length, Nat.zero_le _, by omega, rfl, rfl, by omega, by rw [wTo_zero]; omega, Below.refl _ _⟩
    case round =>
      obtain ⟨k, r, hk, hg, rfl, rfl, hr0, hr1, hbl⟩ := hrel
      by_cases hlt : k < xs.length
      · obtain ⟨b, o, cs, rfl, _, hb, hcs, hc, hR⟩ := unhide HX k hlt
        have hR := RItem_kept.stays _ _ _ _ _ hbl hR
        have hc : ∀ j (hj : j < cs.length), wr.cell? ⟨b, o + k * 3 + j, none⟩ = some cs[j] := fun j hj => by rw [hbl.cell (p := ⟨b, _, none⟩) hb]; exact hc j hj
        obtain ⟨rfl, hsn, ho, hvl⟩ := hR
        have c0 := hc 0 (by simp)
        have c1 := hc 1 (by simp)
        have c2 := hc 2 (by simp)
        simp only [Nat.mul_one, Nat.add_zero, List.getElem_cons_zero, List.getElem_cons_succ] at c0 c1 c2
        have hw := wTo_succ wItem xs k hlt
        have HW := hide hw
        have HG := hide hg
        clear hw hg hc hcs
        go_wp2_with fail
        refine (szItem_ok _ _ _ hsn hr0 (by omega)).mono ?_
        rintro e w1 ⟨r', rfl, hr | ⟨h0, h1⟩, hb1⟩
        · subst hr
          go_wp2
          go_ret
          exact ⟨_, rfl, Or.inl rfl, hbl.trans (hb1.mono hbl.size)⟩
        · go_wp2
          go_roundg (xs.length - (k + 1))
          case measure => have := unhide HG; omega
          case rel => exact ⟨k + 1, r', by omega, rfl, by go_num, rfl, h0, by rw [unhide HW]; omega, hbl.trans (hb1.mono hbl.size)⟩
      · go_wp2
        go_ret
        have e : k = xs.length := by omega
        subst e
        exact ⟨_, rfl, Or.inr ⟨hr0, by rw [← wTo_all]; omega⟩, hbl⟩

end Go.Proofs.YtjjldnkhadakcaaGreat
namespace Go.Proofs.YtjjldnkhadakcaaGreat
open Go.RowKit
set_option linter.unusedSimpArgs false
set_option linter.unusedVariables false

set_option maxHeartbeats 400000 in
theorem szStringS_ok (xs : List ByteArray) (v : Value) (left : Int) (w : World) (hv : SlAt 1 16 RStr 0 w v xs) (hl : 0 ≤ left) (hl2 : left ≤ 1048576) :
    Calls Tryz.prog 67 #[v, .int .i64 left] w (SzPost w left (wSum wStr xs)) := by
  obtain ⟨a, cap, rfl, _, hn, hx⟩ := hv
  unfold Len at hn
  have HX := hide hx
  clear hx
  by_cases h : left - xs.length < 0
  · go_enter Tryz.func67, Tryz.ntmps67
    go_wp2
    go_ret
    exact ⟨_, rfl, Or.inl rfl, Below.refl _ _⟩
  · go_enter Tryz.func67, Tryz.ntmps67
    go_wp2
    go_loopg [1, 5] xs.length (fun g l i wr => ∃ (k : Nat) (r : Int), k ≤ xs.length ∧ g = xs.length - k ∧ i = .int .i64 k ∧ l = .int .i64 r ∧ 0 ≤ r ∧ r ≤ left - xs.length - wTo wStr xs k ∧ Below w.heap.size w wr)
    case atStart => exact ⟨0, left - xs.length, Nat.zero_le _, by omega, rfl, rfl, by omega, by rw [wTo_zero]; omega, Below.refl _ _⟩
    case round =>
      obtain ⟨k, r, hk, hg, rfl, rfl, hr0, hr1, hbl⟩ := hrel
      by_cases hlt : k < xs.length
      · obtain ⟨b, o, cs, rfl, _, hb, hcs, hc, hR⟩ := unhide HX k hlt
        have hc : ∀ j (hj : j < cs.length), wr.cell? ⟨b, o + k * 1 + j, none⟩ = some cs[j] := fun j hj => by rw [hbl.cell (p := ⟨b, _, none⟩) hb]; exact hc j hj
        obtain ⟨rfl, hsn⟩ := hR
        have c0 := hc 0 (by simp)
        simp only [Nat.mul_one, Nat.add_zero, List.getElem_cons_zero, List.getElem_cons_succ] at c0
        have hw := wTo_succ wStr xs k hlt
        have hwe : wStr xs[k] = xs[k].size := rfl
        rw [hwe] at hw
        have HW := hide hw
        have HG := hide hg
        clear hw hg hc hcs hwe
        unfold Len at hsn
        generalize xs[k] = s at *
        by_cases hneg : r - s.size < 0
        · go_wp2
          go_ret
          exact ⟨_, rfl, Or.inl rfl, hbl⟩
        · go_wp2
          go_roundg (xs.length - (k + 1))
          case measure => have := unhide HG; omega
          case rel => exact ⟨k + 1, _, by omega, rfl, by go_num, rfl, by omega, by rw [unhide HW]; omega, hbl⟩
      · go_wp2
        go_ret
        have e : k = xs.length := by omega
        subst e
        exact ⟨_, rfl, Or.inr ⟨hr0, by rw [← wTo_all]; omega⟩, hbl⟩

set_option maxHeartbeats 400000 in
theorem szItemSS_ok (xs : List (List DItem)) (v : Value) (left : Int) (w : World) (hv : SlAt 1 24 RItems 0 w v xs) (hl : 0 ≤ left) (hl2 : left ≤ 1048576) :
    Calls Tryz.prog 114 #[v, .int .i64 left] w (SzPost w left (wSum (wSum wItem) xs)) := by
  obtain ⟨a, cap, rfl, _, hn, hx⟩ := hv
  unfold Len at hn
  have HX := hide hx
  clear hx
  by_cases h : left - xs.length < 0
  · go_enter Tryz.func114, Tryz.ntmps114
    go_wp2
    go_ret
    exact ⟨_, rfl, Or.inl rfl, Below.refl _ _⟩
  · go_enter Tryz.func114, Tryz.ntmps114
    go_wp2
    go_loopg [1, 5] xs.length (fun g l i wr => ∃ (k : Nat) (r : Int), k ≤ xs.length ∧ g = xs.length - k ∧ i = .int .i64 k ∧ l = .int .i64 r ∧ 0 ≤ r ∧ r ≤ left - xs.length - wTo (wSum wItem) xs k ∧ Below w.heap.size w wr)
    case atStart => exact ⟨0, left - xs.length, Nat.zero_le _, by omega, rfl, rfl, by omega, by rw [wTo_zero]; omega, Below.refl _ _⟩
    case round =>
      obtain ⟨k, r, hk, hg, rfl, rfl, hr0, hr1, hbl⟩ := hrel
      by_cases hlt : k < xs.length
      · obtain ⟨b, o, cs, rfl, _, hb, hcs, hc, hR⟩ := unhide HX k hlt
        have hR := RItems_kept.stays _ _ _ _ _ hbl hR
        have hc : ∀ j (hj : j < cs.length), wr.cell? ⟨b, o + k * 1 + j, none⟩ = some cs[j] := fun j hj => by rw [hbl.cell (p := ⟨b, _, none⟩) hb]; exact hc j hj
        obtain ⟨vl, rfl, hcl⟩ := hR
        have HCL := hide hcl
        clear hcl
        have c0 := hc 0 (by simp)
        simp only [Nat.mul_one, Nat.add_zero, List.getElem_cons_zero, List.getElem_cons_succ] at c0
        have hw := wTo_succ (wSum wItem) xs k hlt
        have HW := hide hw
        have HG := hide hg
        clear hw hg hc hcs
        go_wp2_with fail
        refine (szItemS_ok _ _ _ _ (unhide HCL) hr0 (by omega)).mono ?_
        rintro e w1 ⟨r', rfl, hr | ⟨h0, h1⟩, hb1⟩
        · subst hr
          go_wp2
          go_ret
          exact ⟨_, rfl, Or.inl rfl, hbl.trans (hb1.mono hbl.size)⟩
        · go_wp2
          go_roundg (xs.length - (k + 1))
          case measure => have := unhide HG; omega
          case rel => exact ⟨k + 1, r', by omega, rfl, by go_num, rfl, h0, by rw [unhide HW]; omega, hbl.trans (hb1.mono hbl.size)⟩
      · go_wp2
        go_ret
        have e : k = xs.length := by omega
        subst e
        exact ⟨_, rfl, Or.inr ⟨hr0, by rw [← wTo_all]; omega⟩, hbl⟩

end Go.Proofs.YtjjldnkhadakcaaGreat
namespace Go.Proofs.YtjjldnkhadakcaaGreat
open Go.RowKit
set_option linter.unusedSimpArgs false
set_option linter.unusedVariables false

end Go.Proofs.YtjjldnkhadakcaaGreat
