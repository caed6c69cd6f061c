import Derived.Test.YtlgeioedgaajoaaGreatDoorData
import Derived.Test.YtlgeioedgaajoaaGreatDoorProg
import Derived.WalkLawsBesides
import Derived.Deep.LoopGhost
namespace Go.Proofs.YtlgeioedgaajoaaGreatDoor
open Go.RowKit
set_option linter.unusedSimpArgs false
set_option linter.unusedVariables false

/-- What a call that reckons a weight answers: -1, or what is left. -/
def SzPost (w : World) (left : Int) (wt : Nat) (e : Ending) (w' : World) : Prop :=
  ∃ r : Int, e = .returned (.int .i64 r) ∧ (r = -1 ∨ 0 ≤ r ∧ r + wt ≤ left) ∧ Below w.heap.size w w'

theorem szCond_ok (c : DCond) (left : Int) (w : World) (hs : Len c.name.size) (hl : 0 ≤ left) (hl2 : left ≤ 1048576) :
    Calls Tryz.prog 106 #[.agg #[.string c.name, .bool c.on], .int .i64 left] w (SzPost w left (wCond c)) := by
  obtain ⟨s, on⟩ := c
  unfold Len at hs
  simp only at hs
  by_cases h : left - s.size < 0
  all_goals
    go_enter Tryz.func106, Tryz.ntmps106
    go_wp2
    go_ret
  · exact ⟨_, rfl, Or.inl rfl, (Below.refl _ _).alloc (Nat.le_refl _) _⟩
  · exact ⟨_, rfl, Or.inr ⟨by omega, by simp only [wCond]; omega⟩, (Below.refl _ _).alloc (Nat.le_refl _) _⟩

theorem szItem_ok (t : DItem) (left : Int) (w : World) (hs : Len t.name.size) (hl : 0 ≤ left) (hl2 : left ≤ 1048576) :
    Calls Tryz.prog 107 #[.agg #[.int .i64 t.op, .int .i64 t.val, .string t.name], .int .i64 left] w (SzPost w left (wItem t)) := by
  obtain ⟨op, val, s⟩ := t
  unfold Len at hs
  simp only at hs
  by_cases h : left - s.size < 0
  all_goals
    go_enter Tryz.func107, Tryz.ntmps107
    go_wp2
    go_ret
  · exact ⟨_, rfl, Or.inl rfl, (Below.refl _ _).alloc (Nat.le_refl _) _⟩
  · exact ⟨_, rfl, Or.inr ⟨by omega, by simp only [wItem]; omega⟩, (Below.refl _ _).alloc (Nat.le_refl _) _⟩

set_option maxHeartbeats 400000 in
theorem szCondS_ok (xs : List DCond) (v : Value) (left : Int) (w : World) (hv : SlAt 2 24 RCond 0 w v xs) (hl : 0 ≤ left) (hl2 : left ≤ 1048576) :
    Calls Tryz.prog 82 #[v, .int .i64 left] w (SzPost w left (wSum wCond xs)) := by
  obtain ⟨a, cap, rfl, _, hn, hx⟩ := hv
  unfold Len at hn
  have HX := hide hx
  clear hx
  by_cases h : left - xs.length < 0
  · go_enter Tryz.func82, Tryz.ntmps82
    go_wp2
    go_ret
    exact ⟨_, rfl, Or.inl rfl, Below.refl _ _⟩
  · go_enter Tryz.func82, Tryz.ntmps82
    go_wp2
    go_loopg [1, 5] xs.length (fun g l i wr => ∃ (k : Nat) (r : Int), k ≤ xs.length ∧ g = xs.length - k ∧ i = .int .i64 k ∧ l = .int .i64 r ∧ 0 ≤ r ∧ r ≤ left - xs.length - wTo wCond xs k ∧ Below w.heap.size w wr)
    case atStart => exact ⟨0, left - xs.length, Nat.zero_le _, by omega, rfl, rfl, by omega, by rw [wTo_zero]; omega, Below.refl _ _⟩
    case round =>
      obtain ⟨k, r, hk, hg, rfl, rfl, hr0, hr1, hbl⟩ := hrel
      by_cases hlt : k < xs.length
      · obtain ⟨b, o, cs, rfl, _, hb, hcs, hc, hR⟩ := unhide HX k hlt
        have hR := RCond_kept.stays _ _ _ _ _ hbl hR
        have hc : ∀ j (hj : j < cs.length), wr.cell? ⟨b, o + k * 2 + j, none⟩ = some cs[j] := fun j hj => by rw [hbl.cell (p := ⟨b, _, none⟩) hb]; exact hc j hj
        obtain ⟨rfl, hsn⟩ := hR
        have c0 := hc 0 (by simp)
        have c1 := hc 1 (by simp)
        simp only [Nat.mul_one, Nat.add_zero, List.getElem_cons_zero, List.getElem_cons_succ] at c0 c1
        have hw := wTo_succ wCond xs k hlt
        have HW := hide hw
        have HG := hide hg
        clear hw hg hc hcs
        go_wp2_with fail
        refine (szCond_ok _ _ _ hsn hr0 (by omega)).mono ?_
        rintro e w1 ⟨r', rfl, hr | ⟨h0, h1⟩, hb1⟩
        · subst hr
          go_wp2
          go_ret
          exact ⟨_, rfl, Or.inl rfl, hbl.trans (hb1.mono hbl.size)⟩
        · go_wp2
          go_roundg (xs.length - (k + 1))
          case measure => have := unhide HG; omega
          case rel => exact ⟨k + 1, r', by omega, rfl, by go_num, rfl, h0, by rw [unhide HW]; omega, hbl.trans (hb1.mono hbl.size)⟩
      · go_wp2
        go_ret
        have e : k = xs.length := by omega
        subst e
        exact ⟨_, rfl, Or.inr ⟨hr0, by rw [← wTo_all]; omega⟩, hbl⟩

set_option maxHeartbeats 400000 in
theorem szItemS_ok (xs : List DItem) (v : Value) (left : Int) (w : World) (hv : SlAt 3 32 RItem 0 w v xs) (hl : 0 ≤ left) (hl2 : left ≤ 1048576) :
    Calls Tryz.prog 84 #[v, .int .i64 left] w (SzPost w left (wSum wItem xs)) := by
  obtain ⟨a, cap, rfl, _, hn, hx⟩ := hv
  unfold Len at hn
  have HX := hide hx
  clear hx
  by_cases h : left - xs.length < 0
  · go_enter Tryz.func84, Tryz.ntmps84
    go_wp2
    go_ret
    exact ⟨_, rfl, Or.inl rfl, Below.refl _ _⟩
  · go_enter Tryz.func84, Tryz.ntmps84
    go_wp2
    go_loopg [1, 5] xs.length (fun g l i wr => ∃ (k : Nat) (r : Int), k ≤ xs.length ∧ g = xs.length - k ∧ i = .int .i64 k ∧ l = .int .i64 r ∧ 0 ≤ r ∧ r ≤ left - xs.length - wTo wItem xs k ∧ Below w.heap.size w wr)
    case atStart => exact ⟨0, left - xs.length, Nat.zero_le _, by omega, rfl, rfl, by omega, by rw [wTo_zero]; omega, Below.refl _ _⟩
    case round =>
      obtain ⟨k, r, hk, hg, rfl, rfl, hr0, hr1, hbl⟩ := hrel
      by_cases hlt : k < xs.length
      · obtain ⟨b, o, cs, rfl, _, hb, hcs, hc, hR⟩ := unhide HX k hlt
        have hR := RItem_kept.stays _ _ _ _ _ hbl hR
        have hc : ∀ j (hj : j < cs.length), wr.cell? ⟨b, o + k * 3 + j, none⟩ = some cs[j] := fun j hj => by rw [hbl.cell (p := ⟨b, _, none⟩) hb]; exact hc j hj
        obtain ⟨rfl, hsn, ho, hvl⟩ := hR
        have c0 := hc 0 (by simp)
        have c1 := hc 1 (by simp)
        have c2 := hc 2 (by simp)
        simp only [Nat.mul_one, Nat.add_zero, List.getElem_cons_zero, List.getElem_cons_succ] at c0 c1 c2
        have hw := wTo_succ wItem xs k hlt
        have HW := hide hw
        have HG := hide hg
        clear hw hg hc hcs
        go_wp2_with fail
        refine (szItem_ok _ _ _ hsn hr0 (by omega)).mono ?_
        rintro e w1 ⟨r', rfl, hr | ⟨h0, h1⟩, hb1⟩
        · subst hr
          go_wp2
          go_ret
          exact ⟨_, rfl, Or.inl rfl, hbl.trans (hb1.mono hbl.size)⟩
        · go_wp2
          go_roundg (xs.length - (k + 1))
          case measure => have := unhide HG; omega
          case rel => exact ⟨k + 1, r', by omega, rfl, by go_num, rfl, h0, by rw [unhide HW]; omega, hbl.trans (hb1.mono hbl.size)⟩
      · go_wp2
        go_ret
        have e : k = xs.length := by omega
        subst e
        exact ⟨_, rfl, Or.inr ⟨hr0, by rw [← wTo_all]; omega⟩, hbl⟩

set_option maxHeartbeats 400000 in
theorem szVar_ok (v : DVar) (cl : Value) (left : Int) (w : World) (hs : Len v.name.size) (hcl : SlAt 2 24 RCond 0 w cl v.clock) (hl : 0 ≤ left) (hl2 : left ≤ 1048576) :
    Calls Tryz.prog 57 #[.agg #[.string v.name, .int .i64 v.type, cl], .int .i64 left] w (SzPost w left (wVar v)) := by
  obtain ⟨s, ty, clk⟩ := v
  unfold Len at hs
  simp only at hs hcl
  by_cases h : left - s.size < 0
  · go_enter Tryz.func57, Tryz.ntmps57
    go_wp2
    go_ret
    exact ⟨_, rfl, Or.inl rfl, (Below.refl _ _).alloc (Nat.le_refl _) _⟩
  · have HC := hide hcl
    clear hcl
    go_enter Tryz.func57, Tryz.ntmps57
    go_wp2_with fail
    refine (szCondS_ok clk _ _ _ ?_ ?_ ?_).mono ?_
    · exact (unhide HC).stays RCond_kept ((Below.refl _ _).alloc (Nat.le_refl _) _)
    · omega
    · omega
    rintro e w1 ⟨r', rfl, hr | ⟨h0, h1⟩, hb1⟩
    · subst hr
      go_wp2
      go_ret
      exact ⟨_, rfl, Or.inl rfl, ((Below.refl _ _).alloc (Nat.le_refl _) _).trans (hb1.mono (by simp))⟩
    · go_wp2
      go_ret
      exact ⟨_, rfl, Or.inr ⟨h0, by simp only [wVar]; omega⟩, ((Below.refl _ _).alloc (Nat.le_refl _) _).trans (hb1.mono (by simp))⟩

set_option maxHeartbeats 400000 in
theorem szVarS_ok (xs : List DVar) (v : Value) (left : Int) (w : World) (hv : SlAt 3 48 RVar 0 w v xs) (hl : 0 ≤ left) (hl2 : left ≤ 1048576) :
    Calls Tryz.prog 35 #[v, .int .i64 left] w (SzPost w left (wSum wVar xs)) := by
  obtain ⟨a, cap, rfl, _, hn, hx⟩ := hv
  unfold Len at hn
  have HX := hide hx
  clear hx
  by_cases h : left - xs.length < 0
  · go_enter Tryz.func35, Tryz.ntmps35
    go_wp2
    go_ret
    exact ⟨_, rfl, Or.inl rfl, Below.refl _ _⟩
  · go_enter Tryz.func35, Tryz.ntmps35
    go_wp2
    go_loopg [1, 5] xs.length (fun g l i wr => ∃ (k : Nat) (r : Int), k ≤ xs.length ∧ g = xs.length - k ∧ i = .int .i64 k ∧ l = .int .i64 r ∧ 0 ≤ r ∧ r ≤ left - xs.length - wTo wVar xs k ∧ Below w.heap.size w wr)
    case atStart => exact ⟨0, left - xs.length, Nat.zero_le _, by omega, rfl, rfl, by omega, by rw [wTo_zero]; omega, Below.refl _ _⟩
    case round =>
      obtain ⟨k, r, hk, hg, rfl, rfl, hr0, hr1, hbl⟩ := hrel
      by_cases hlt : k < xs.length
      · obtain ⟨b, o, cs, rfl, _, hb, hcs, hc, hR⟩ := unhide HX k hlt
        have hR := RVar_kept.stays _ _ _ _ _ hbl hR
        have hc : ∀ j (hj : j < cs.length), wr.cell? ⟨b, o + k * 3 + j, none⟩ = some cs[j] := fun j hj => by rw [hbl.cell (p := ⟨b, _, none⟩) hb]; exact hc j hj
        obtain ⟨cl, rfl, hsn, hty, hcl⟩ := hR
        have HCL := hide hcl
        clear hcl
        have c0 := hc 0 (by simp)
        have c1 := hc 1 (by simp)
        have c2 := hc 2 (by simp)
        simp only [Nat.mul_one, Nat.add_zero, List.getElem_cons_zero, List.getElem_cons_succ] at c0 c1 c2
        have hw := wTo_succ wVar xs k hlt
        have HW := hide hw
        have HG := hide hg
        clear hw hg hc hcs
        go_wp2_with fail
        refine (szVar_ok _ _ _ _ hsn (unhide HCL) hr0 (by omega)).mono ?_
        rintro e w1 ⟨r', rfl, hr | ⟨h0, h1⟩, hb1⟩
        · subst hr
          go_wp2
          go_ret
          exact ⟨_, rfl, Or.inl rfl, hbl.trans (hb1.mono hbl.size)⟩
        · go_wp2
          go_roundg (xs.length - (k + 1))
          case measure => have := unhide HG; omega
          case rel => exact ⟨k + 1, r', by omega, rfl, by go_num, rfl, h0, by rw [unhide HW]; omega, hbl.trans (hb1.mono hbl.size)⟩
      · go_wp2
        go_ret
        have e : k = xs.length := by omega
        subst e
        exact ⟨_, rfl, Or.inr ⟨hr0, by rw [← wTo_all]; omega⟩, hbl⟩

end Go.Proofs.YtlgeioedgaajoaaGreatDoor
namespace Go.Proofs.YtlgeioedgaajoaaGreatDoor
open Go.RowKit
set_option linter.unusedSimpArgs false
set_option linter.unusedVariables false

set_option maxHeartbeats 400000 in
theorem szStringS_ok (xs : List ByteArray) (v : Value) (left : Int) (w : World) (hv : SlAt 1 16 RStr 0 w v xs) (hl : 0 ≤ left) (hl2 : left ≤ 1048576) :
    Calls Tryz.prog 83 #[v, .int .i64 left] w (SzPost w left (wSum wStr xs)) := by
  obtain ⟨a, cap, rfl, _, hn, hx⟩ := hv
  unfold Len at hn
  have HX := hide hx
  clear hx
  by_cases h : left - xs.length < 0
  · go_enter Tryz.func83, Tryz.ntmps83
    go_wp2
    go_ret
    exact ⟨_, rfl, Or.inl rfl, Below.refl _ _⟩
  · go_enter Tryz.func83, Tryz.ntmps83
    go_wp2
    go_loopg [1, 5] xs.length (fun g l i wr => ∃ (k : Nat) (r : Int), k ≤ xs.length ∧ g = xs.length - k ∧ i = .int .i64 k ∧ l = .int .i64 r ∧ 0 ≤ r ∧ r ≤ left - xs.length - wTo wStr xs k ∧ Below w.heap.size w wr)
    case atStart => exact ⟨0, left - xs.length, Nat.zero_le _, by omega, rfl, rfl, by omega, by rw [wTo_zero]; omega, Below.refl _ _⟩
    case round =>
      obtain ⟨k, r, hk, hg, rfl, rfl, hr0, hr1, hbl⟩ := hrel
      by_cases hlt : k < xs.length
      · obtain ⟨b, o, cs, rfl, _, hb, hcs, hc, hR⟩ := unhide HX k hlt
        have hc : ∀ j (hj : j < cs.length), wr.cell? ⟨b, o + k * 1 + j, none⟩ = some cs[j] := fun j hj => by rw [hbl.cell (p := ⟨b, _, none⟩) hb]; exact hc j hj
        obtain ⟨rfl, hsn⟩ := hR
        have c0 := hc 0 (by simp)
        simp only [Nat.mul_one, Nat.add_zero, List.getElem_cons_zero, List.getElem_cons_succ] at c0
        have hw := wTo_succ wStr xs k hlt
        have hwe : wStr xs[k] = xs[k].size := rfl
        rw [hwe] at hw
        have HW := hide hw
        have HG := hide hg
        clear hw hg hc hcs hwe
        unfold Len at hsn
        generalize xs[k] = s at *
        by_cases hneg : r - s.size < 0
        · go_wp2
          go_ret
          exact ⟨_, rfl, Or.inl rfl, hbl⟩
        · go_wp2
          go_roundg (xs.length - (k + 1))
          case measure => have := unhide HG; omega
          case rel => exact ⟨k + 1, _, by omega, rfl, by go_num, rfl, by omega, by rw [unhide HW]; omega, hbl⟩
      · go_wp2
        go_ret
        have e : k = xs.length := by omega
        subst e
        exact ⟨_, rfl, Or.inr ⟨hr0, by rw [← wTo_all]; omega⟩, hbl⟩

set_option maxHeartbeats 400000 in
theorem szItemSS_ok (xs : List (List DItem)) (v : Value) (left : Int) (w : World) (hv : SlAt 1 24 RItems 0 w v xs) (hl : 0 ≤ left) (hl2 : left ≤ 1048576) :
    Calls Tryz.prog 85 #[v, .int .i64 left] w (SzPost w left (wSum (wSum wItem) xs)) := by
  obtain ⟨a, cap, rfl, _, hn, hx⟩ := hv
  unfold Len at hn
  have HX := hide hx
  clear hx
  by_cases h : left - xs.length < 0
  · go_enter Tryz.func85, Tryz.ntmps85
    go_wp2
    go_ret
    exact ⟨_, rfl, Or.inl rfl, Below.refl _ _⟩
  · go_enter Tryz.func85, Tryz.ntmps85
    go_wp2
    go_loopg [1, 5] xs.length (fun g l i wr => ∃ (k : Nat) (r : Int), k ≤ xs.length ∧ g = xs.length - k ∧ i = .int .i64 k ∧ l = .int .i64 r ∧ 0 ≤ r ∧ r ≤ left - xs.length - wTo (wSum wItem) xs k ∧ Below w.heap.size w wr)
    case atStart => exact ⟨0, left - xs.length, Nat.zero_le _, by omega, rfl, rfl, by omega, by rw [wTo_zero]; omega, Below.refl _ _⟩
    case round =>
      obtain ⟨k, r, hk, hg, rfl, rfl, hr0, hr1, hbl⟩ := hrel
      by_cases hlt : k < xs.length
      · obtain ⟨b, o, cs, rfl, _, hb, hcs, hc, hR⟩ := unhide HX k hlt
        have hR := RItems_kept.stays _ _ _ _ _ hbl hR
        have hc : ∀ j (hj : j < cs.length), wr.cell? ⟨b, o + k * 1 + j, none⟩ = some cs[j] := fun j hj => by rw [hbl.cell (p := ⟨b, _, none⟩) hb]; exact hc j hj
        obtain ⟨vl, rfl, hcl⟩ := hR
        have HCL := hide hcl
        clear hcl
        have c0 := hc 0 (by simp)
        simp only [Nat.mul_one, Nat.add_zero, List.getElem_cons_zero, List.getElem_cons_succ] at c0
        have hw := wTo_succ (wSum wItem) xs k hlt
        have HW := hide hw
        have HG := hide hg
        clear hw hg hc hcs
        go_wp2_with fail
        refine (szItemS_ok _ _ _ _ (unhide HCL) hr0 (by omega)).mono ?_
        rintro e w1 ⟨r', rfl, hr | ⟨h0, h1⟩, hb1⟩
        · subst hr
          go_wp2
          go_ret
          exact ⟨_, rfl, Or.inl rfl, hbl.trans (hb1.mono hbl.size)⟩
        · go_wp2
          go_roundg (xs.length - (k + 1))
          case measure => have := unhide HG; omega
          case rel => exact ⟨k + 1, r', by omega, rfl, by go_num, rfl, h0, by rw [unhide HW]; omega, hbl.trans (hb1.mono hbl.size)⟩
      · go_wp2
        go_ret
        have e : k = xs.length := by omega
        subst e
        exact ⟨_, rfl, Or.inr ⟨hr0, by rw [← wTo_all]; omega⟩, hbl⟩

set_option maxHeartbeats 400000 in
theorem szEquation_ok (q : DEq) (l c a : Value) (left : Int) (w : World) (hs : Len q.call.size) (h1 : SlAt 1 16 RStr 0 w l q.lhs) (h2 : SlAt 3 32 RItem 0 w c q.code) (h3 : SlAt 1 24 RItems 0 w a q.args) (hl : 0 ≤ left) (hl2 : left ≤ 1048576) :
    Calls Tryz.prog 58 #[.agg #[l, c, .string q.call, a], .int .i64 left] w (SzPost w left (wEq q)) := by
  obtain ⟨lhs, code, s, args⟩ := q
  unfold Len at hs
  simp only at hs h1 h2 h3
  have H1 := hide h1
  have H2 := hide h2
  have H3 := hide h3
  clear h1 h2 h3
  go_enter Tryz.func58, Tryz.ntmps58
  go_wp2_with fail
  refine (szStringS_ok lhs _ _ _ ?_ ?_ ?_).mono ?_
  · exact (unhide H1).stays RStr_kept ((Below.refl _ _).alloc (Nat.le_refl _) _)
  · omega
  · omega
  rintro e w1 ⟨r1, rfl, hr | ⟨h0, h1⟩, hb1⟩
  · subst hr
    go_wp2
    go_ret
    exact ⟨_, rfl, Or.inl rfl, ((Below.refl _ _).alloc (Nat.le_refl _) _).trans (hb1.mono (by simp))⟩
  obtain ⟨hc1, hf1⟩ := bcell hb1
  have B1 : Below w.heap.size w w1 := ((Below.refl _ _).alloc (Nat.le_refl _) _).trans (hb1.mono (by simp))
  have hz1 : w.heap.size < w1.heap.size := by have := hb1.size; simp at this; omega
  have HB1 := hide hb1
  clear hb1
  go_wp2_with fail
  refine (szItemS_ok code _ _ _ ?_ ?_ ?_).mono ?_
  · exact (unhide H2).stays RItem_kept B1
  · omega
  · omega
  rintro e w2 ⟨r2, rfl, hr | ⟨h2, h3⟩, hb2⟩
  · subst hr
    go_wp2
    go_ret
    exact ⟨_, rfl, Or.inl rfl, B1.trans (hb2.mono B1.size)⟩
  obtain ⟨hc2, hf2⟩ := bcell hb2
  have B2 : Below w.heap.size w w2 := B1.trans (hb2.mono B1.size)
  have hz2 : w.heap.size < w2.heap.size := by have := hb2.size; omega
  clear hb2
  by_cases hneg : r2 - s.size < 0
  · go_wp2
    go_ret
    exact ⟨_, rfl, Or.inl rfl, B2⟩
  go_wp2_with fail
  refine (szItemSS_ok args _ _ _ ?_ ?_ ?_).mono ?_
  · exact (unhide H3).stays RItems_kept B2
  · omega
  · omega
  rintro e w3 ⟨r3, rfl, hr | ⟨h4, h5⟩, hb3⟩
  · subst hr
    go_wp2
    go_ret
    exact ⟨_, rfl, Or.inl rfl, B2.trans (hb3.mono B2.size)⟩
  · go_wp2
    go_ret
    exact ⟨_, rfl, Or.inr ⟨h4, by simp only [wEq]; omega⟩, B2.trans (hb3.mono B2.size)⟩

set_option maxHeartbeats 400000 in
theorem szEquationS_ok (xs : List DEq) (v : Value) (left : Int) (w : World) (hv : SlAt 4 88 REq 0 w v xs) (hl : 0 ≤ left) (hl2 : left ≤ 1048576) :
    Calls Tryz.prog 36 #[v, .int .i64 left] w (SzPost w left (wSum wEq xs)) := by
  obtain ⟨a, cap, rfl, _, hn, hx⟩ := hv
  unfold Len at hn
  have HX := hide hx
  clear hx
  by_cases h : left - xs.length < 0
  · go_enter Tryz.func36, Tryz.ntmps36
    go_wp2
    go_ret
    exact ⟨_, rfl, Or.inl rfl, Below.refl _ _⟩
  · go_enter Tryz.func36, Tryz.ntmps36
    go_wp2
    go_loopg [1, 5] xs.length (fun g l i wr => ∃ (k : Nat) (r : Int), k ≤ xs.length ∧ g = xs.length - k ∧ i = .int .i64 k ∧ l = .int .i64 r ∧ 0 ≤ r ∧ r ≤ left - xs.length - wTo wEq xs k ∧ Below w.heap.size w wr)
    case atStart => exact ⟨0, left - xs.length, Nat.zero_le _, by omega, rfl, rfl, by omega, by rw [wTo_zero]; omega, Below.refl _ _⟩
    case round =>
      obtain ⟨k, r, hk, hg, rfl, rfl, hr0, hr1, hbl⟩ := hrel
      by_cases hlt : k < xs.length
      · obtain ⟨b, o, cs, rfl, _, hb, hcs, hc, hR⟩ := unhide HX k hlt
        have hR := REq_kept.stays _ _ _ _ _ hbl hR
        have hc : ∀ j (hj : j < cs.length), wr.cell? ⟨b, o + k * 4 + j, none⟩ = some cs[j] := fun j hj => by rw [hbl.cell (p := ⟨b, _, none⟩) hb]; exact hc j hj
        obtain ⟨l, c, aa, rfl, hsn, g1, g2, g3⟩ := hR
        have G1 := hide g1
        have G2 := hide g2
        have G3 := hide g3
        clear g1 g2 g3
        have c0 := hc 0 (by simp)
        have c1 := hc 1 (by simp)
        have c2 := hc 2 (by simp)
        have c3 := hc 3 (by simp)
        simp only [Nat.mul_one, Nat.add_zero, List.getElem_cons_zero, List.getElem_cons_succ] at c0 c1 c2 c3
        have hw := wTo_succ wEq xs k hlt
        have HW := hide hw
        have HG := hide hg
        clear hw hg hc hcs
        go_wp2_with fail
        refine (szEquation_ok _ _ _ _ _ _ hsn (unhide G1) (unhide G2) (unhide G3) hr0 (by omega)).mono ?_
        rintro e w1 ⟨r', rfl, hr | ⟨h0, h1⟩, hb1⟩
        · subst hr
          go_wp2
          go_ret
          exact ⟨_, rfl, Or.inl rfl, hbl.trans (hb1.mono hbl.size)⟩
        · go_wp2
          go_roundg (xs.length - (k + 1))
          case measure => have := unhide HG; omega
          case rel => exact ⟨k + 1, r', by omega, rfl, by go_num, rfl, h0, by rw [unhide HW]; omega, hbl.trans (hb1.mono hbl.size)⟩
      · go_wp2
        go_ret
        have e : k = xs.length := by omega
        subst e
        exact ⟨_, rfl, Or.inr ⟨hr0, by rw [← wTo_all]; omega⟩, hbl⟩

end Go.Proofs.YtlgeioedgaajoaaGreatDoor
namespace Go.Proofs.YtlgeioedgaajoaaGreatDoor
open Go.RowKit
set_option linter.unusedSimpArgs false
set_option linter.unusedVariables false

set_option maxHeartbeats 1000000 in
theorem szNode_ok (q : DNode) (i o v x : Value) (left : Int) (w : World) (hs : Len q.name.size) (h1 : SlAt 3 48 RVar 0 w i q.ins) (h2 : SlAt 3 48 RVar 0 w o q.outs) (h3 : SlAt 3 48 RVar 0 w v q.vars) (h4 : SlAt 4 88 REq 0 w x q.eqs) (hl : 0 ≤ left) (hl2 : left ≤ 1048576) :
    Calls Tryz.prog 19 #[.agg #[.string q.name, i, o, v, x], .int .i64 left] w (SzPost w left (wNode q)) := by
  obtain ⟨s, ins, outs, vars, eqs⟩ := q
  unfold Len at hs
  simp only at hs h1 h2 h3 h4
  have H1 := hide h1
  have H2 := hide h2
  have H3 := hide h3
  have H4 := hide h4
  clear h1 h2 h3 h4
  by_cases hneg : left - s.size < 0
  · go_enter Tryz.func19, Tryz.ntmps19
    go_wp2
    go_ret
    exact ⟨_, rfl, Or.inl rfl, (Below.refl _ _).alloc (Nat.le_refl _) _⟩
  go_enter Tryz.func19, Tryz.ntmps19
  go_wp2_with fail
  refine (szVarS_ok ins _ _ _ ?_ ?_ ?_).mono ?_
  · exact (unhide H1).stays RVar_kept ((Below.refl _ _).alloc (Nat.le_refl _) _)
  · omega
  · omega
  rintro e w1 ⟨r1, rfl, hr | ⟨p1, q1⟩, hb1⟩
  · subst hr
    go_wp2
    go_ret
    exact ⟨_, rfl, Or.inl rfl, ((Below.refl _ _).alloc (Nat.le_refl _) _).trans (hb1.mono (by simp))⟩
  obtain ⟨hc1, hf1⟩ := bcell hb1
  have B1 : Below w.heap.size w w1 := ((Below.refl _ _).alloc (Nat.le_refl _) _).trans (hb1.mono (by simp))
  have hz1 : w.heap.size < w1.heap.size := by have := hb1.size; simp at this; omega
  clear hb1
  go_wp2_with fail
  refine (szVarS_ok outs _ _ _ ?_ ?_ ?_).mono ?_
  · exact (unhide H2).stays RVar_kept B1
  · omega
  · omega
  rintro e w2 ⟨r2, rfl, hr | ⟨p2, q2⟩, hb2⟩
  · subst hr
    go_wp2
    go_ret
    exact ⟨_, rfl, Or.inl rfl, B1.trans (hb2.mono B1.size)⟩
  obtain ⟨hc2, hf2⟩ := bcell hb2
  have B2 : Below w.heap.size w w2 := B1.trans (hb2.mono B1.size)
  have hz2 : w.heap.size < w2.heap.size := by have := hb2.size; omega
  clear hb2
  go_wp2_with fail
  refine (szVarS_ok vars _ _ _ ?_ ?_ ?_).mono ?_
  · exact (unhide H3).stays RVar_kept B2
  · omega
  · omega
  rintro e w3 ⟨r3, rfl, hr | ⟨p3, q3⟩, hb3⟩
  · subst hr
    go_wp2
    go_ret
    exact ⟨_, rfl, Or.inl rfl, B2.trans (hb3.mono B2.size)⟩
  obtain ⟨hc3, hf3⟩ := bcell hb3
  have B3 : Below w.heap.size w w3 := B2.trans (hb3.mono B2.size)
  have hz3 : w.heap.size < w3.heap.size := by have := hb3.size; omega
  clear hb3
  go_wp2_with fail
  refine (szEquationS_ok eqs _ _ _ ?_ ?_ ?_).mono ?_
  · exact (unhide H4).stays REq_kept B3
  · omega
  · omega
  rintro e w4 ⟨r4, rfl, hr | ⟨p4, q4⟩, hb4⟩
  · subst hr
    go_wp2
    go_ret
    exact ⟨_, rfl, Or.inl rfl, B3.trans (hb4.mono B3.size)⟩
  go_wp2
  go_ret
  exact ⟨_, rfl, Or.inr ⟨p4, by simp only [wNode]; omega⟩, B3.trans (hb4.mono B3.size)⟩

set_option maxHeartbeats 400000 in
theorem szNodeS_ok (xs : List DNode) (v : Value) (left : Int) (w : World) (hv : SlAt 5 112 RNode 0 w v xs) (hl : 0 ≤ left) (hl2 : left ≤ 1048576) :
    Calls Tryz.prog 9 #[v, .int .i64 left] w (SzPost w left (wSum wNode xs)) := by
  obtain ⟨a, cap, rfl, _, hn, hx⟩ := hv
  unfold Len at hn
  have HX := hide hx
  clear hx
  by_cases h : left - xs.length < 0
  · go_enter Tryz.func9, Tryz.ntmps9
    go_wp2
    go_ret
    exact ⟨_, rfl, Or.inl rfl, Below.refl _ _⟩
  · go_enter Tryz.func9, Tryz.ntmps9
    go_wp2
    go_loopg [1, 5] xs.length (fun g l i wr => ∃ (k : Nat) (r : Int), k ≤ xs.length ∧ g = xs.length - k ∧ i = .int .i64 k ∧ l = .int .i64 r ∧ 0 ≤ r ∧ r ≤ left - xs.length - wTo wNode xs k ∧ Below w.heap.size w wr)
    case atStart => exact ⟨0, left - xs.length, Nat.zero_le _, by omega, rfl, rfl, by omega, by rw [wTo_zero]; omega, Below.refl _ _⟩
    case round =>
      obtain ⟨k, r, hk, hg, rfl, rfl, hr0, hr1, hbl⟩ := hrel
      by_cases hlt : k < xs.length
      · obtain ⟨b, o, cs, rfl, _, hb, hcs, hc, hR⟩ := unhide HX k hlt
        have hR := RNode_kept.stays _ _ _ _ _ hbl hR
        have hc : ∀ j (hj : j < cs.length), wr.cell? ⟨b, o + k * 5 + j, none⟩ = some cs[j] := fun j hj => by rw [hbl.cell (p := ⟨b, _, none⟩) hb]; exact hc j hj
        obtain ⟨ni, no, nv, ne, rfl, hsn, g1, g2, g3, g4⟩ := hR
        have G1 := hide g1
        have G2 := hide g2
        have G3 := hide g3
        have G4 := hide g4
        clear g1 g2 g3 g4
        have c0 := hc 0 (by simp)
        have c1 := hc 1 (by simp)
        have c2 := hc 2 (by simp)
        have c3 := hc 3 (by simp)
        have c4 := hc 4 (by simp)
        simp only [Nat.mul_one, Nat.add_zero, List.getElem_cons_zero, List.getElem_cons_succ] at c0 c1 c2 c3 c4
        have hw := wTo_succ wNode xs k hlt
        have HW := hide hw
        have HG := hide hg
        clear hw hg hc hcs
        go_wp2_with fail
        refine (szNode_ok _ _ _ _ _ _ _ hsn (unhide G1) (unhide G2) (unhide G3) (unhide G4) hr0 (by omega)).mono ?_
        rintro e w1 ⟨r', rfl, hr | ⟨h0, h1⟩, hb1⟩
        · subst hr
          go_wp2
          go_ret
          exact ⟨_, rfl, Or.inl rfl, hbl.trans (hb1.mono hbl.size)⟩
        · go_wp2
          go_roundg (xs.length - (k + 1))
          case measure => have := unhide HG; omega
          case rel => exact ⟨k + 1, r', by omega, rfl, by go_num, rfl, h0, by rw [unhide HW]; omega, hbl.trans (hb1.mono hbl.size)⟩
      · go_wp2
        go_ret
        have e : k = xs.length := by omega
        subst e
        exact ⟨_, rfl, Or.inr ⟨hr0, by rw [← wTo_all]; omega⟩, hbl⟩

set_option maxHeartbeats 400000 in
theorem szProgram_ok (ns : List DNode) (v : Value) (left : Int) (w : World) (h1 : SlAt 5 112 RNode 0 w v ns) (hl : 0 ≤ left) (hl2 : left ≤ 1048576) :
    Calls Tryz.prog 4 #[.agg #[v], .int .i64 left] w (SzPost w left (wSum wNode ns)) := by
  have H1 := hide h1
  clear h1
  go_enter Tryz.func4, Tryz.ntmps4
  go_wp2_with fail
  refine (szNodeS_ok ns _ _ _ ?_ ?_ ?_).mono ?_
  · exact (unhide H1).stays RNode_kept ((Below.refl _ _).alloc (Nat.le_refl _) _)
  · omega
  · omega
  rintro e w1 ⟨r1, rfl, hr | ⟨p1, q1⟩, hb1⟩
  · subst hr
    go_wp2
    go_ret
    exact ⟨_, rfl, Or.inl rfl, ((Below.refl _ _).alloc (Nat.le_refl _) _).trans (hb1.mono (by simp))⟩
  · go_wp2
    go_ret
    exact ⟨_, rfl, Or.inr ⟨p1, by omega⟩, ((Below.refl _ _).alloc (Nat.le_refl _) _).trans (hb1.mono (by simp))⟩

end Go.Proofs.YtlgeioedgaajoaaGreatDoor
