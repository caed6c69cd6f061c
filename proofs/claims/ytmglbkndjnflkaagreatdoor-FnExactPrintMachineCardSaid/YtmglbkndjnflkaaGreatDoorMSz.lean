import Derived.Test.YtmglbkndjnflkaaGreatDoorMData
import Derived.Test.YtmglbkndjnflkaaGreatDoorTo
namespace Go.Proofs.YtmglbkndjnflkaaGreatDoor
open Go.RowKit
set_option linter.unusedSimpArgs false
set_option linter.unusedVariables false

set_option maxHeartbeats 400000 in
theorem szIntS_ok (xs : List Int) (v : Value) (left : Int) (w : World) (hv : SlAt 1 8 RInt 0 w v xs) (hl : 0 ≤ left) (hl2 : left ≤ 1048576) :
    Calls Tryz.prog 34 #[v, .int .i64 left] w (SzPost w left xs.length) := by
  obtain ⟨a, cap, rfl, _, hn, hx⟩ := hv
  unfold Len at hn
  clear hx
  by_cases h : left - xs.length < 0
  all_goals
    go_enter Tryz.func34, Tryz.ntmps34
    go_wp2
    go_ret
  · exact ⟨_, rfl, Or.inl rfl, Below.refl _ _⟩
  · exact ⟨_, rfl, Or.inr ⟨by omega, by omega⟩, Below.refl _ _⟩

theorem szSlot_ok (c : DSlot) (left : Int) (w : World) (hs : Len c.name.size) (hl : 0 ≤ left) (hl2 : left ≤ 1048576) :
    Calls Tryz.prog 60 #[.agg #[.string c.name, .int .i64 c.type], .int .i64 left] w (SzPost w left (wSlot c)) := by
  obtain ⟨s, on⟩ := c
  unfold Len at hs
  simp only at hs
  by_cases h : left - s.size < 0
  all_goals
    go_enter Tryz.func60, Tryz.ntmps60
    go_wp2
    go_ret
  · exact ⟨_, rfl, Or.inl rfl, (Below.refl _ _).alloc (Nat.le_refl _) _⟩
  · exact ⟨_, rfl, Or.inr ⟨by omega, by simp only [wSlot]; omega⟩, (Below.refl _ _).alloc (Nat.le_refl _) _⟩

set_option maxHeartbeats 400000 in
theorem szSlotS_ok (xs : List DSlot) (v : Value) (left : Int) (w : World) (hv : SlAt 2 24 RSlot 0 w v xs) (hl : 0 ≤ left) (hl2 : left ≤ 1048576) :
    Calls Tryz.prog 32 #[v, .int .i64 left] w (SzPost w left (wSum wSlot xs)) := by
  obtain ⟨a, cap, rfl, _, hn, hx⟩ := hv
  unfold Len at hn
  have HX := hide hx
  clear hx
  by_cases h : left - xs.length < 0
  · go_enter Tryz.func32, Tryz.ntmps32
    go_wp2
    go_ret
    exact ⟨_, rfl, Or.inl rfl, Below.refl _ _⟩
  · go_enter Tryz.func32, Tryz.ntmps32
    go_wp2
    go_loopg [1, 5] xs.length (fun g l i wr => ∃ (k : Nat) (r : Int), k ≤ xs.length ∧ g = xs.length - k ∧ i = .int .i64 k ∧ l = .int .i64 r ∧ 0 ≤ r ∧ r ≤ left - xs.length - wTo wSlot xs k ∧ Below w.heap.size w wr)
    case atStart => exact ⟨0, left - xs.length, Nat.zero_le _, by omega, rfl, rfl, by omega, by rw [wTo_zero]; omega, Below.refl _ _⟩
    case round =>
      obtain ⟨k, r, hk, hg, rfl, rfl, hr0, hr1, hbl⟩ := hrel
      by_cases hlt : k < xs.length
      · obtain ⟨b, o, cs, rfl, _, hb, hcs, hc, hR⟩ := unhide HX k hlt
        have hR := RSlot_kept.stays _ _ _ _ _ hbl hR
        have hc : ∀ j (hj : j < cs.length), wr.cell? ⟨b, o + k * 2 + j, none⟩ = some cs[j] := fun j hj => by rw [hbl.cell (p := ⟨b, _, none⟩) hb]; exact hc j hj
        obtain ⟨rfl, hsn, hty⟩ := hR
        have c0 := hc 0 (by simp)
        have c1 := hc 1 (by simp)
        simp only [Nat.mul_one, Nat.add_zero, List.getElem_cons_zero, List.getElem_cons_succ] at c0 c1
        have hw := wTo_succ wSlot xs k hlt
        have HW := hide hw
        have HG := hide hg
        clear hw hg hc hcs
        go_wp2_with fail
        refine (szSlot_ok _ _ _ hsn hr0 (by omega)).mono ?_
        rintro e w1 ⟨r', rfl, hr | ⟨h0, h1⟩, hb1⟩
        · subst hr
          go_wp2
          go_ret
          exact ⟨_, rfl, Or.inl rfl, hbl.trans (hb1.mono hbl.size)⟩
        · go_wp2
          go_roundg (xs.length - (k + 1))
          case measure => have := unhide HG; omega
          case rel => exact ⟨k + 1, r', by omega, rfl, by go_num, rfl, h0, by rw [unhide HW]; omega, hbl.trans (hb1.mono hbl.size)⟩
      · go_wp2
        go_ret
        have e : k = xs.length := by omega
        subst e
        exact ⟨_, rfl, Or.inr ⟨hr0, by rw [← wTo_all]; omega⟩, hbl⟩

set_option maxHeartbeats 1000000 in
theorem szStm_ok (x : DStm) (a1 a2 a3 : Value) (left : Int) (w : World) (hs : Len x.name.size) (h1 : SlAt 1 16 RStr 0 w a1 x.outs) (h2 : SlAt 3 32 RItem 0 w a2 x.code) (h3 : SlAt 1 24 RItems 0 w a3 x.args) (hl : 0 ≤ left) (hl2 : left ≤ 1048576) :
    Calls Tryz.prog 61 #[.agg #[.int .i64 x.kind, .string x.name, .int .i64 x.at_, a1, a2, a3], .int .i64 left] w (SzPost w left (wStm x)) := by
  obtain ⟨kd, s, at0, outs, code, args⟩ := x
  unfold Len at hs
  simp only at hs h1 h2 h3
  have H1 := hide h1
  clear h1
  have H2 := hide h2
  clear h2
  have H3 := hide h3
  clear h3
  by_cases hneg : left - s.size < 0
  · go_enter Tryz.func61, Tryz.ntmps61
    go_wp2
    go_ret
    exact ⟨_, rfl, Or.inl rfl, (Below.refl _ _).alloc (Nat.le_refl _) _⟩
  go_enter Tryz.func61, Tryz.ntmps61
  go_wp2_with fail
  refine (szStringS_ok outs _ _ _ ?_ ?_ ?_).mono ?_
  · exact (unhide H1).stays RStr_kept ((Below.refl _ _).alloc (Nat.le_refl _) _)
  · omega
  · omega
  rintro e w1 ⟨r1, rfl, hr | ⟨p1, q1⟩, hb1⟩
  · subst hr
    go_wp2
    go_ret
    exact ⟨_, rfl, Or.inl rfl, ((Below.refl _ _).alloc (Nat.le_refl _) _).trans (hb1.mono (by simp))⟩
  obtain ⟨hc1, hf1⟩ := bcell hb1
  have B1 : Below w.heap.size w w1 := ((Below.refl _ _).alloc (Nat.le_refl _) _).trans (hb1.mono (by simp))
  have hz1 : w.heap.size < w1.heap.size := by have := hb1.size; first | omega | (simp at this; omega)
  clear hb1
  go_wp2_with fail
  refine (szItemS_ok code _ _ _ ?_ ?_ ?_).mono ?_
  · exact (unhide H2).stays RItem_kept B1
  · omega
  · omega
  rintro e w2 ⟨r2, rfl, hr | ⟨p2, q2⟩, hb2⟩
  · subst hr
    go_wp2
    go_ret
    exact ⟨_, rfl, Or.inl rfl, B1.trans (hb2.mono B1.size)⟩
  obtain ⟨hc2, hf2⟩ := bcell hb2
  have B2 : Below w.heap.size w w2 := B1.trans (hb2.mono B1.size)
  have hz2 : w.heap.size < w2.heap.size := by have := hb2.size; first | omega | (simp at this; omega)
  clear hb2
  go_wp2_with fail
  refine (szItemSS_ok args _ _ _ ?_ ?_ ?_).mono ?_
  · exact (unhide H3).stays RItems_kept B2
  · omega
  · omega
  rintro e w3 ⟨r3, rfl, hr | ⟨p3, q3⟩, hb3⟩
  · subst hr
    go_wp2
    go_ret
    exact ⟨_, rfl, Or.inl rfl, B2.trans (hb3.mono B2.size)⟩
  go_wp2
  go_ret
  exact ⟨_, rfl, Or.inr ⟨p3, by simp only [wStm]; omega⟩, B2.trans (hb3.mono B2.size)⟩

set_option maxHeartbeats 400000 in
theorem szStmS_ok (xs : List DStm) (v : Value) (left : Int) (w : World) (hv : SlAt 6 104 RStm 0 w v xs) (hl : 0 ≤ left) (hl2 : left ≤ 1048576) :
    Calls Tryz.prog 35 #[v, .int .i64 left] w (SzPost w left (wSum wStm xs)) := by
  obtain ⟨a, cap, rfl, _, hn, hx⟩ := hv
  unfold Len at hn
  have HX := hide hx
  clear hx
  by_cases h : left - xs.length < 0
  · go_enter Tryz.func35, Tryz.ntmps35
    go_wp2
    go_ret
    exact ⟨_, rfl, Or.inl rfl, Below.refl _ _⟩
  · go_enter Tryz.func35, Tryz.ntmps35
    go_wp2
    go_loopg [1, 5] xs.length (fun g l i wr => ∃ (k : Nat) (r : Int), k ≤ xs.length ∧ g = xs.length - k ∧ i = .int .i64 k ∧ l = .int .i64 r ∧ 0 ≤ r ∧ r ≤ left - xs.length - wTo wStm xs k ∧ Below w.heap.size w wr)
    case atStart => exact ⟨0, left - xs.length, Nat.zero_le _, by omega, rfl, rfl, by omega, by rw [wTo_zero]; omega, Below.refl _ _⟩
    case round =>
      obtain ⟨k, r, hk, hg, rfl, rfl, hr0, hr1, hbl⟩ := hrel
      by_cases hlt : k < xs.length
      · obtain ⟨b, o, cs, rfl, _, hb, hcs, hc, hR⟩ := unhide HX k hlt
        have hR := RStm_kept.stays _ _ _ _ _ hbl hR
        have hc : ∀ j (hj : j < cs.length), wr.cell? ⟨b, o + k * 6 + j, none⟩ = some cs[j] := fun j hj => by rw [hbl.cell (p := ⟨b, _, none⟩) hb]; exact hc j hj
        obtain ⟨so, sc, sa, rfl, hsn, hk1, hk2, g1, g2, g3⟩ := hR
        have G1 := hide g1
        clear g1
        have G2 := hide g2
        clear g2
        have G3 := hide g3
        clear g3
        have c0 := hc 0 (by simp)
        have c1 := hc 1 (by simp)
        have c2 := hc 2 (by simp)
        have c3 := hc 3 (by simp)
        have c4 := hc 4 (by simp)
        have c5 := hc 5 (by simp)
        simp only [Nat.mul_one, Nat.add_zero, List.getElem_cons_zero, List.getElem_cons_succ] at c0 c1 c2 c3 c4 c5
        have hw := wTo_succ wStm xs k hlt
        have HW := hide hw
        have HG := hide hg
        clear hw hg hc hcs
        go_wp2_with fail
        refine (szStm_ok _ _ _ _ _ _ hsn (unhide G1) (unhide G2) (unhide G3) hr0 (by omega)).mono ?_
        rintro e w1 ⟨r', rfl, hr | ⟨h0, h1⟩, hb1⟩
        · subst hr
          go_wp2
          go_ret
          exact ⟨_, rfl, Or.inl rfl, hbl.trans (hb1.mono hbl.size)⟩
        · go_wp2
          go_roundg (xs.length - (k + 1))
          case measure => have := unhide HG; omega
          case rel => exact ⟨k + 1, r', by omega, rfl, by go_num, rfl, h0, by rw [unhide HW]; omega, hbl.trans (hb1.mono hbl.size)⟩
      · go_wp2
        go_ret
        have e : k = xs.length := by omega
        subst e
        exact ⟨_, rfl, Or.inr ⟨hr0, by rw [← wTo_all]; omega⟩, hbl⟩

set_option maxHeartbeats 1000000 in
theorem szClass_ok (x : DClass) (a1 a2 a3 a4 a5 a6 : Value) (left : Int) (w : World) (hs : Len x.name.size) (h1 : SlAt 2 24 RSlot 0 w a1 x.ins) (h2 : SlAt 2 24 RSlot 0 w a2 x.outs) (h3 : SlAt 1 16 RStr 0 w a3 x.locs) (h4 : SlAt 1 8 RInt 0 w a4 x.mems) (h5 : SlAt 1 8 RInt 0 w a5 x.insts) (h6 : SlAt 6 104 RStm 0 w a6 x.body) (hl : 0 ≤ left) (hl2 : left ≤ 1048576) :
    Calls Tryz.prog 19 #[.agg #[.string x.name, a1, a2, a3, a4, a5, a6], .int .i64 left] w (SzPost w left (wClass x)) := by
  obtain ⟨s, ins, outs, locs, mems, insts, body⟩ := x
  unfold Len at hs
  simp only at hs h1 h2 h3 h4 h5 h6
  have H1 := hide h1
  clear h1
  have H2 := hide h2
  clear h2
  have H3 := hide h3
  clear h3
  have H4 := hide h4
  clear h4
  have H5 := hide h5
  clear h5
  have H6 := hide h6
  clear h6
  by_cases hneg : left - s.size < 0
  · go_enter Tryz.func19, Tryz.ntmps19
    go_wp2
    go_ret
    exact ⟨_, rfl, Or.inl rfl, (Below.refl _ _).alloc (Nat.le_refl _) _⟩
  go_enter Tryz.func19, Tryz.ntmps19
  go_wp2_with fail
  refine (szSlotS_ok ins _ _ _ ?_ ?_ ?_).mono ?_
  · exact (unhide H1).stays RSlot_kept ((Below.refl _ _).alloc (Nat.le_refl _) _)
  · omega
  · omega
  rintro e w1 ⟨r1, rfl, hr | ⟨p1, q1⟩, hb1⟩
  · subst hr
    go_wp2
    go_ret
    exact ⟨_, rfl, Or.inl rfl, ((Below.refl _ _).alloc (Nat.le_refl _) _).trans (hb1.mono (by simp))⟩
  obtain ⟨hc1, hf1⟩ := bcell hb1
  have B1 : Below w.heap.size w w1 := ((Below.refl _ _).alloc (Nat.le_refl _) _).trans (hb1.mono (by simp))
  have hz1 : w.heap.size < w1.heap.size := by have := hb1.size; first | omega | (simp at this; omega)
  clear hb1
  go_wp2_with fail
  refine (szSlotS_ok outs _ _ _ ?_ ?_ ?_).mono ?_
  · exact (unhide H2).stays RSlot_kept B1
  · omega
  · omega
  rintro e w2 ⟨r2, rfl, hr | ⟨p2, q2⟩, hb2⟩
  · subst hr
    go_wp2
    go_ret
    exact ⟨_, rfl, Or.inl rfl, B1.trans (hb2.mono B1.size)⟩
  obtain ⟨hc2, hf2⟩ := bcell hb2
  have B2 : Below w.heap.size w w2 := B1.trans (hb2.mono B1.size)
  have hz2 : w.heap.size < w2.heap.size := by have := hb2.size; first | omega | (simp at this; omega)
  clear hb2
  go_wp2_with fail
  refine (szStringS_ok locs _ _ _ ?_ ?_ ?_).mono ?_
  · exact (unhide H3).stays RStr_kept B2
  · omega
  · omega
  rintro e w3 ⟨r3, rfl, hr | ⟨p3, q3⟩, hb3⟩
  · subst hr
    go_wp2
    go_ret
    exact ⟨_, rfl, Or.inl rfl, B2.trans (hb3.mono B2.size)⟩
  obtain ⟨hc3, hf3⟩ := bcell hb3
  have B3 : Below w.heap.size w w3 := B2.trans (hb3.mono B2.size)
  have hz3 : w.heap.size < w3.heap.size := by have := hb3.size; first | omega | (simp at this; omega)
  clear hb3
  go_wp2_with fail
  refine (szIntS_ok mems _ _ _ ?_ ?_ ?_).mono ?_
  · exact (unhide H4).stays RInt_kept B3
  · omega
  · omega
  rintro e w4 ⟨r4, rfl, hr | ⟨p4, q4⟩, hb4⟩
  · subst hr
    go_wp2
    go_ret
    exact ⟨_, rfl, Or.inl rfl, B3.trans (hb4.mono B3.size)⟩
  obtain ⟨hc4, hf4⟩ := bcell hb4
  have B4 : Below w.heap.size w w4 := B3.trans (hb4.mono B3.size)
  have hz4 : w.heap.size < w4.heap.size := by have := hb4.size; first | omega | (simp at this; omega)
  clear hb4
  go_wp2_with fail
  refine (szIntS_ok insts _ _ _ ?_ ?_ ?_).mono ?_
  · exact (unhide H5).stays RInt_kept B4
  · omega
  · omega
  rintro e w5 ⟨r5, rfl, hr | ⟨p5, q5⟩, hb5⟩
  · subst hr
    go_wp2
    go_ret
    exact ⟨_, rfl, Or.inl rfl, B4.trans (hb5.mono B4.size)⟩
  obtain ⟨hc5, hf5⟩ := bcell hb5
  have B5 : Below w.heap.size w w5 := B4.trans (hb5.mono B4.size)
  have hz5 : w.heap.size < w5.heap.size := by have := hb5.size; first | omega | (simp at this; omega)
  clear hb5
  go_wp2_with fail
  refine (szStmS_ok body _ _ _ ?_ ?_ ?_).mono ?_
  · exact (unhide H6).stays RStm_kept B5
  · omega
  · omega
  rintro e w6 ⟨r6, rfl, hr | ⟨p6, q6⟩, hb6⟩
  · subst hr
    go_wp2
    go_ret
    exact ⟨_, rfl, Or.inl rfl, B5.trans (hb6.mono B5.size)⟩
  go_wp2
  go_ret
  exact ⟨_, rfl, Or.inr ⟨p6, by simp only [wClass]; omega⟩, B5.trans (hb6.mono B5.size)⟩

set_option maxHeartbeats 400000 in
theorem szClassS_ok (xs : List DClass) (v : Value) (left : Int) (w : World) (hv : SlAt 7 160 RClass 0 w v xs) (hl : 0 ≤ left) (hl2 : left ≤ 1048576) :
    Calls Tryz.prog 9 #[v, .int .i64 left] w (SzPost w left (wSum wClass xs)) := by
  obtain ⟨a, cap, rfl, _, hn, hx⟩ := hv
  unfold Len at hn
  have HX := hide hx
  clear hx
  by_cases h : left - xs.length < 0
  · go_enter Tryz.func9, Tryz.ntmps9
    go_wp2
    go_ret
    exact ⟨_, rfl, Or.inl rfl, Below.refl _ _⟩
  · go_enter Tryz.func9, Tryz.ntmps9
    go_wp2
    go_loopg [1, 5] xs.length (fun g l i wr => ∃ (k : Nat) (r : Int), k ≤ xs.length ∧ g = xs.length - k ∧ i = .int .i64 k ∧ l = .int .i64 r ∧ 0 ≤ r ∧ r ≤ left - xs.length - wTo wClass xs k ∧ Below w.heap.size w wr)
    case atStart => exact ⟨0, left - xs.length, Nat.zero_le _, by omega, rfl, rfl, by omega, by rw [wTo_zero]; omega, Below.refl _ _⟩
    case round =>
      obtain ⟨k, r, hk, hg, rfl, rfl, hr0, hr1, hbl⟩ := hrel
      by_cases hlt : k < xs.length
      · obtain ⟨b, o, cs, rfl, _, hb, hcs, hc, hR⟩ := unhide HX k hlt
        have hR := RClass_kept.stays _ _ _ _ _ hbl hR
        have hc : ∀ j (hj : j < cs.length), wr.cell? ⟨b, o + k * 7 + j, none⟩ = some cs[j] := fun j hj => by rw [hbl.cell (p := ⟨b, _, none⟩) hb]; exact hc j hj
        obtain ⟨ki, ko, kl, km, kn, kb, rfl, hsn, g1, g2, g3, g4, g5, g6⟩ := hR
        have G1 := hide g1
        clear g1
        have G2 := hide g2
        clear g2
        have G3 := hide g3
        clear g3
        have G4 := hide g4
        clear g4
        have G5 := hide g5
        clear g5
        have G6 := hide g6
        clear g6
        have c0 := hc 0 (by simp)
        have c1 := hc 1 (by simp)
        have c2 := hc 2 (by simp)
        have c3 := hc 3 (by simp)
        have c4 := hc 4 (by simp)
        have c5 := hc 5 (by simp)
        have c6 := hc 6 (by simp)
        simp only [Nat.mul_one, Nat.add_zero, List.getElem_cons_zero, List.getElem_cons_succ] at c0 c1 c2 c3 c4 c5 c6
        have hw := wTo_succ wClass xs k hlt
        have HW := hide hw
        have HG := hide hg
        clear hw hg hc hcs
        go_wp2_with fail
        refine (szClass_ok _ _ _ _ _ _ _ _ _ hsn (unhide G1) (unhide G2) (unhide G3) (unhide G4) (unhide G5) (unhide G6) hr0 (by omega)).mono ?_
        rintro e w1 ⟨r', rfl, hr | ⟨h0, h1⟩, hb1⟩
        · subst hr
          go_wp2
          go_ret
          exact ⟨_, rfl, Or.inl rfl, hbl.trans (hb1.mono hbl.size)⟩
        · go_wp2
          go_roundg (xs.length - (k + 1))
          case measure => have := unhide HG; omega
          case rel => exact ⟨k + 1, r', by omega, rfl, by go_num, rfl, h0, by rw [unhide HW]; omega, hbl.trans (hb1.mono hbl.size)⟩
      · go_wp2
        go_ret
        have e : k = xs.length := by omega
        subst e
        exact ⟨_, rfl, Or.inr ⟨hr0, by rw [← wTo_all]; omega⟩, hbl⟩

set_option maxHeartbeats 400000 in
theorem szMachine_ok (ks : List DClass) (v : Value) (left : Int) (w : World) (h1 : SlAt 7 160 RClass 0 w v ks) (hl : 0 ≤ left) (hl2 : left ≤ 1048576) :
    Calls Tryz.prog 4 #[.agg #[v], .int .i64 left] w (SzPost w left (wSum wClass ks)) := by
  have H1 := hide h1
  clear h1
  go_enter Tryz.func4, Tryz.ntmps4
  go_wp2_with fail
  refine (szClassS_ok ks _ _ _ ?_ ?_ ?_).mono ?_
  · exact (unhide H1).stays RClass_kept ((Below.refl _ _).alloc (Nat.le_refl _) _)
  · omega
  · omega
  rintro e w1 ⟨r1, rfl, hr | ⟨p1, q1⟩, hb1⟩
  · subst hr
    go_wp2
    go_ret
    exact ⟨_, rfl, Or.inl rfl, ((Below.refl _ _).alloc (Nat.le_refl _) _).trans (hb1.mono (by simp))⟩
  · go_wp2
    go_ret
    exact ⟨_, rfl, Or.inr ⟨p1, by omega⟩, ((Below.refl _ _).alloc (Nat.le_refl _) _).trans (hb1.mono (by simp))⟩

end Go.Proofs.YtmglbkndjnflkaaGreatDoor
namespace Go.Proofs.YtmglbkndjnflkaaGreatDoor
open Go.RowKit
set_option linter.unusedSimpArgs false
set_option linter.unusedVariables false

set_option maxHeartbeats 400000 in
theorem toSlot_ok (c : DSlot) (w : World) (hs : Len c.name.size) (ht : I64 c.type) :
    Calls Tryz.prog 69 #[.agg #[.string c.name, .int .i64 c.type]] w (ToPost RSlot w c) := by
  obtain ⟨s, ty⟩ := c
  simp only at hs ht
  have HS := hide hs
  have HT := hide ht
  clear hs ht
  go_enter Tryz.func69, Tryz.ntmps69
  go_wp2
  exact bodyPost_ret (v := .agg #[.string s, .int .i64 ty]) (by simp [results, Tryz.results69, go_sem]) rfl ⟨[.string s, .int .i64 ty], rfl, ⟨rfl, unhide HS, unhide HT⟩, (((BelF.refl _).alloc (Nat.le_refl _) _).alloc (by simp) _).alloc (by simp; omega) _⟩

theorem info_toSlotS : (Tryz.prog.info? 42).map (fun i => (i.zero, i.size, i.bytes)) = some (some (.agg #[.string ByteArray.empty, .int .i64 0]), 2, 24) := by kernel_rfl

set_option maxHeartbeats 400000 in
theorem toSlotS_ok (xs : List DSlot) (v : Value) (w : World) (hv : SlAt 2 24 RSlot 0 w v xs) :
    Calls Tryz.prog 46 #[v] w (ToPostS 2 24 RSlot w xs) := by
  obtain ⟨a, cap, rfl, ⟨hnb, _⟩, hn, hx⟩ := hv
  have HNB := hide hnb
  have HN := hide hn
  unfold Len at hn hnb
  have HX := hide hx
  clear hx
  have hmk := make_rows (P := Tryz.prog) 36 42 _ _ _ Tryz.underlying36 info_toSlotS xs.length hnb hn
  clear hnb
  go_enter Tryz.func46, Tryz.ntmps46
  go_wp2
  go_loopg [4] xs.length (fun g i wr => ∃ (k : Nat), k ≤ xs.length ∧ g = xs.length - k ∧ i = .int .i64 k ∧ BelF w.heap.size w wr ∧ RowAt wr w.heap.size (xs.length * 2) ∧ Filled 2 RSlot (w.heap.size + 1) wr w.heap.size xs k)
  case atStart => exact ⟨0, Nat.zero_le _, by omega, rfl, (BelF.refl _).alloc (Nat.le_refl _) _, RowAt.made _ _ _ _, fill_none _ _ _ _ _ _⟩
  case round =>
    obtain ⟨k, hk, hg, rfl, hbl, hrow, hfil⟩ := hrel
    clear hmk
    have HG := hide hg
    have HF := hide hfil
    clear hg hfil
    by_cases hlt : k < xs.length
    · obtain ⟨b, o, cs, rfl, _, hb, hcs, hc, hR⟩ := unhide HX k hlt
      have hR := RSlot_kept.stays _ _ _ _ _ hbl.below hR
      have hc : ∀ j (hj : j < cs.length), wr.cell? ⟨b, o + k * 2 + j, none⟩ = some cs[j] := fun j hj => by rw [hbl.below.cell (p := ⟨b, _, none⟩) hb]; exact hc j hj
      obtain ⟨rfl, hsn, hty⟩ := hR
      have c0 := hc 0 (by simp)
      have c1 := hc 1 (by simp)
      simp only [Nat.mul_one, Nat.add_zero, List.getElem_cons_zero, List.getElem_cons_succ] at c0 c1
      clear hc hcs
      go_wp2_with fail
      refine (toSlot_ok _ _ hsn hty).mono ?_
      rintro e w1 ⟨cs', rfl, hR1, hb1⟩
      have hrow1 := hrow.below hb1.below
      have hR1' := hR1
      obtain ⟨rfl, hsn1, hty1⟩ := hR1
      obtain ⟨x0, d0⟩ := hrow1.cell (i := k * 2) (by omega)
      have f0 := hrow1.frozen (k * 2)
      obtain ⟨x1, d1⟩ := hrow1.cell (i := k * 2 + 1) (by omega)
      have f1 := hrow1.frozen (k * 2 + 1)
      have step := fill_stepF RSlot_kept RSlot_lowers hlt (Nat.le_refl _) hbl hrow (unhide HF) hb1 rfl hR1'
      have ST := hide step
      clear c0 c1 step hR1' hrow1
      go_wp2
      go_roundg (xs.length - (k + 1))
      case measure => have := unhide HG; omega
      case rel => exact ⟨k + 1, by omega, rfl, by go_num, unhide ST⟩
    · have e : k = xs.length := by omega
      have hb0 := hrow.lt
      have D := hide (fill_done RSlot_lowers hb0 (unhide HNB) (unhide HN) (by have := unhide HF; rwa [e] at this))
      clear hrow
      go_wp2
      go_ret
      exact ⟨_, rfl, unhide D, hbl⟩

theorem info_toIntS : (Tryz.prog.info? 3).map (fun i => (i.zero, i.size, i.bytes)) = some (some (.int .i64 0), 1, 8) := by kernel_rfl

set_option maxHeartbeats 400000 in
theorem toIntS_ok (xs : List Int) (v : Value) (w : World) (hv : SlAt 1 8 RInt 0 w v xs) :
    Calls Tryz.prog 48 #[v] w (ToPostS 1 8 RInt w xs) := by
  obtain ⟨a, cap, rfl, ⟨hnb, _⟩, hn, hx⟩ := hv
  have HNB := hide hnb
  have HN := hide hn
  unfold Len at hn hnb
  have HX := hide hx
  clear hx
  have hmk := make_rows (P := Tryz.prog) 37 3 _ _ _ Tryz.underlying37 info_toIntS xs.length hnb hn
  clear hnb
  go_enter Tryz.func48, Tryz.ntmps48
  go_wp2
  go_loopg [4] xs.length (fun g i wr => ∃ (k : Nat), k ≤ xs.length ∧ g = xs.length - k ∧ i = .int .i64 k ∧ BelF w.heap.size w wr ∧ RowAt wr w.heap.size xs.length ∧ Filled 1 RInt (w.heap.size + 1) wr w.heap.size xs k)
  case atStart => exact ⟨0, Nat.zero_le _, by omega, rfl, (BelF.refl _).alloc (Nat.le_refl _) _, RowAt.made _ _ _ _, fill_none _ _ _ _ _ _⟩
  case round =>
    obtain ⟨k, hk, hg, rfl, hbl, hrow, hfil⟩ := hrel
    clear hmk
    have HG := hide hg
    have HF := hide hfil
    clear hg hfil
    by_cases hlt : k < xs.length
    · obtain ⟨b, o, cs, rfl, _, hb, hcs, hc, hR⟩ := unhide HX k hlt
      have hR := RInt_kept.stays _ _ _ _ _ hbl.below hR
      have hc : ∀ j (hj : j < cs.length), wr.cell? ⟨b, o + k * 1 + j, none⟩ = some cs[j] := fun j hj => by rw [hbl.below.cell (p := ⟨b, _, none⟩) hb]; exact hc j hj
      obtain ⟨rfl, hsn⟩ := hR
      have c0 := hc 0 (by simp)
      simp only [Nat.mul_one, Nat.add_zero, List.getElem_cons_zero, List.getElem_cons_succ] at c0
      clear hc hcs
      obtain ⟨x0, d0⟩ := hrow.cell (i := k) (by omega)
      have f0 := hrow.frozen k
      have step := fill_stepF RInt_kept RInt_lowers hlt (Nat.le_refl _) hbl (by rw [Nat.mul_one]; exact hrow) (unhide HF) (BelF.refl _) rfl (cs := [.int .i64 xs[k]]) ⟨rfl, hsn⟩
      simp only [Nat.mul_one] at step
      have ST := hide step
      clear step hsn
      generalize xs[k] = s at *
      go_wp2
      go_roundg (xs.length - (k + 1))
      case measure => have := unhide HG; omega
      case rel => exact ⟨k + 1, by omega, rfl, by go_num, unhide ST⟩
    · have e : k = xs.length := by omega
      have hb0 := hrow.lt
      have D := hide (fill_done RInt_lowers hb0 (unhide HNB) (unhide HN) (by have := unhide HF; rwa [e] at this))
      clear hrow
      go_wp2
      go_ret
      exact ⟨_, rfl, unhide D, hbl⟩

set_option maxHeartbeats 1000000 in
theorem toStm_ok (x : DStm) (a1 a2 a3 : Value) (w : World) (hs : Len x.name.size) (hk : I64 x.kind) (ha : I64 x.at_) (h1 : SlAt 1 16 RStr 0 w a1 x.outs) (h2 : SlAt 3 32 RItem 0 w a2 x.code) (h3 : SlAt 1 24 RItems 0 w a3 x.args) :
    Calls Tryz.prog 70 #[.agg #[.int .i64 x.kind, .string x.name, .int .i64 x.at_, a1, a2, a3]] w (ToPost RStm w x) := by
  obtain ⟨kd, s, at0, outs, code, args⟩ := x
  simp only at hs hk ha h1 h2 h3
  have Hhs := hide hs
  clear hs
  have Hhk := hide hk
  clear hk
  have Hha := hide ha
  clear ha
  have H1 := hide h1
  clear h1
  have H2 := hide h2
  clear h2
  have H3 := hide h3
  clear h3
  go_enter Tryz.func70, Tryz.ntmps70
  go_wp2_with fail
  refine (toStringS_ok outs _ _ ?_).mono ?_
  · exact (unhide H1).stays RStr_kept ((((Below.refl _ _).alloc (Nat.le_refl _) _).alloc (by simp) _).alloc (by simp <;> omega) _)
  rintro e w1 ⟨v1, rfl, hS, hb⟩
  obtain ⟨b1, cap1, rfl⟩ := hS.shape
  obtain ⟨hc1, hf1⟩ := bcell hb.below
  have hz := hb.below.size
  simp only [World.size_alloc, Deep.nblk_setCell] at hz hc1 hf1
  have HS1 := hide (hS.lower RStr_lowers (lo' := w.heap.size + 1 + 1 + 1) (by simp <;> omega))
  have HB1 : Hid (BelF w.heap.size w w1) := ((((BelF.refl _).alloc (Nat.le_refl _) _).alloc (by simp) _).alloc (by simp <;> omega) _).and hb (by simp <;> omega)
  have hza1 : w.heap.size < w1.heap.size := by omega
  have hzb1 : w.heap.size + 1 < w1.heap.size := by omega
  have hzc1 : w.heap.size + 1 + 1 < w1.heap.size := by omega
  clear hS hb hz
  go_wp2_with fail
  refine (toItemS_ok code _ _ ?_).mono ?_
  · exact (unhide H2).stays RItem_kept (by repeat (first | refine Below.setCell ?_ (by simp <;> omega) _ | exact (unhide HB1).below))
  rintro e w2 ⟨v2, rfl, hS, hb⟩
  obtain ⟨b2, cap2, rfl⟩ := hS.shape
  obtain ⟨hc2, hf2⟩ := bcell hb.below
  have hz := hb.below.size
  simp only [World.size_alloc, Deep.nblk_setCell] at hz hc2 hf2
  have HS2 := hide (hS.lower RItem_lowers (lo' := w.heap.size + 1 + 1 + 1) (by simp <;> omega))
  have HB2 : Hid (BelF w.heap.size w w2) := by
    refine BelF.and ?_ hb (by simp <;> omega)
    repeat (first | refine BelF.setCell ?_ (by simp <;> omega) _ | exact unhide HB1)
  have HK : Kept (w.heap.size + 1 + 1 + 1) w1.heap.size w1 w2 := by
    refine Kept.trans ?_ (Kept.of_below hb.below) (by simp <;> omega)
    repeat (first | refine Kept.setCell ?_ (by simp <;> omega) _ | exact Kept.refl _ _ _)
  replace HS1 := hide ((unhide HS1).kept RStr_kept HK)
  clear HK
  have hza2 : w.heap.size < w2.heap.size := by omega
  have hzb2 : w.heap.size + 1 < w2.heap.size := by omega
  have hzc2 : w.heap.size + 1 + 1 < w2.heap.size := by omega
  clear hS hb hz
  go_wp2_with fail
  refine (toItemSS_ok args _ _ ?_).mono ?_
  · exact (unhide H3).stays RItems_kept (by repeat (first | refine Below.setCell ?_ (by simp <;> omega) _ | exact (unhide HB2).below))
  rintro e w3 ⟨v3, rfl, hS, hb⟩
  obtain ⟨b3, cap3, rfl⟩ := hS.shape
  obtain ⟨hc3, hf3⟩ := bcell hb.below
  have hz := hb.below.size
  simp only [World.size_alloc, Deep.nblk_setCell] at hz hc3 hf3
  have HS3 := hide (hS.lower RItems_lowers (lo' := w.heap.size + 1 + 1 + 1) (by simp <;> omega))
  have HB3 : Hid (BelF w.heap.size w w3) := by
    refine BelF.and ?_ hb (by simp <;> omega)
    repeat (first | refine BelF.setCell ?_ (by simp <;> omega) _ | exact unhide HB2)
  have HK : Kept (w.heap.size + 1 + 1 + 1) w2.heap.size w2 w3 := by
    refine Kept.trans ?_ (Kept.of_below hb.below) (by simp <;> omega)
    repeat (first | refine Kept.setCell ?_ (by simp <;> omega) _ | exact Kept.refl _ _ _)
  replace HS1 := hide ((unhide HS1).kept RStr_kept HK)
  replace HS2 := hide ((unhide HS2).kept RItem_kept HK)
  clear HK
  have hza3 : w.heap.size < w3.heap.size := by omega
  have hzb3 : w.heap.size + 1 < w3.heap.size := by omega
  have hzc3 : w.heap.size + 1 + 1 < w3.heap.size := by omega
  clear hS hb hz
  go_wp2
  refine bodyPost_ret (v := .agg #[.int .i64 kd, .string s, .int .i64 at0, .slice b1 outs.length cap1, .slice b2 code.length cap2, .slice b3 args.length cap3]) (by simp [results, Tryz.results70, go_sem, hc1, hza1, hzb1, hzc1, hc2, hza2, hzb2, hzc2, hc3, hza3, hzb3, hzc3]) rfl ⟨[.int .i64 kd, .string s, .int .i64 at0, .slice b1 outs.length cap1, .slice b2 code.length cap2, .slice b3 args.length cap3], rfl, ⟨_, _, _, rfl, unhide Hhs, unhide Hhk, unhide Hha, ?_, ?_, ?_⟩, ?_⟩
  · exact ((unhide HS1).kept RStr_kept (by repeat (first | refine Kept.setCell ?_ (by simp <;> omega) _ | exact Kept.refl _ _ _))).lower RStr_lowers (by omega)
  · exact ((unhide HS2).kept RItem_kept (by repeat (first | refine Kept.setCell ?_ (by simp <;> omega) _ | exact Kept.refl _ _ _))).lower RItem_lowers (by omega)
  · exact ((unhide HS3).kept RItems_kept (by repeat (first | refine Kept.setCell ?_ (by simp <;> omega) _ | exact Kept.refl _ _ _))).lower RItems_lowers (by omega)
  · repeat (first | refine BelF.setCell ?_ (by simp <;> omega) _ | exact unhide HB3)

theorem info_toStmS : (Tryz.prog.info? 47).map (fun i => (i.zero, i.size, i.bytes)) = some (some (.agg #[.int .i64 0, .string ByteArray.empty, .int .i64 0, .slice none 0 0, .slice none 0 0, .slice none 0 0]), 6, 104) := by kernel_rfl

set_option maxHeartbeats 400000 in
theorem toStmS_ok (xs : List DStm) (v : Value) (w : World) (hv : SlAt 6 104 RStm 0 w v xs) :
    Calls Tryz.prog 49 #[v] w (ToPostS 6 104 RStm w xs) := by
  obtain ⟨a, cap, rfl, ⟨hnb, _⟩, hn, hx⟩ := hv
  have HNB := hide hnb
  have HN := hide hn
  unfold Len at hn hnb
  have HX := hide hx
  clear hx
  have hmk := make_rows (P := Tryz.prog) 38 47 _ _ _ Tryz.underlying38 info_toStmS xs.length hnb hn
  clear hnb
  go_enter Tryz.func49, Tryz.ntmps49
  go_wp2
  go_loopg [4] xs.length (fun g i wr => ∃ (k : Nat), k ≤ xs.length ∧ g = xs.length - k ∧ i = .int .i64 k ∧ BelF w.heap.size w wr ∧ RowAt wr w.heap.size (xs.length * 6) ∧ Filled 6 RStm (w.heap.size + 1) wr w.heap.size xs k)
  case atStart => exact ⟨0, Nat.zero_le _, by omega, rfl, (BelF.refl _).alloc (Nat.le_refl _) _, RowAt.made _ _ _ _, fill_none _ _ _ _ _ _⟩
  case round =>
    obtain ⟨k, hk, hg, rfl, hbl, hrow, hfil⟩ := hrel
    clear hmk
    have HG := hide hg
    have HF := hide hfil
    clear hg hfil
    by_cases hlt : k < xs.length
    · obtain ⟨b, o, cs, rfl, _, hb, hcs, hc, hR⟩ := unhide HX k hlt
      have hR := RStm_kept.stays _ _ _ _ _ hbl.below hR
      have hc : ∀ j (hj : j < cs.length), wr.cell? ⟨b, o + k * 6 + j, none⟩ = some cs[j] := fun j hj => by rw [hbl.below.cell (p := ⟨b, _, none⟩) hb]; exact hc j hj
      obtain ⟨so, sc, sa, rfl, hsn, hk1, hk2, g1, g2, g3⟩ := hR
      have G1 := hide g1
      clear g1
      have G2 := hide g2
      clear g2
      have G3 := hide g3
      clear g3
      have c0 := hc 0 (by simp)
      have c1 := hc 1 (by simp)
      have c2 := hc 2 (by simp)
      have c3 := hc 3 (by simp)
      have c4 := hc 4 (by simp)
      have c5 := hc 5 (by simp)
      simp only [Nat.mul_one, Nat.add_zero, List.getElem_cons_zero, List.getElem_cons_succ] at c0 c1 c2 c3 c4 c5
      clear hc hcs
      go_wp2_with fail
      refine (toStm_ok _ _ _ _ _ hsn hk1 hk2 (unhide G1) (unhide G2) (unhide G3)).mono ?_
      rintro e w1 ⟨cs', rfl, hR1, hb1⟩
      have hrow1 := hrow.below hb1.below
      have hR1' := hR1
      obtain ⟨l1, l2, l3, rfl, hsn1, hk11, hk12, g1, g2, g3⟩ := hR1
      obtain ⟨aa1, ca1, rfl⟩ := g1.shape
      clear g1
      obtain ⟨aa2, ca2, rfl⟩ := g2.shape
      clear g2
      obtain ⟨aa3, ca3, rfl⟩ := g3.shape
      clear g3
      obtain ⟨x0, d0⟩ := hrow1.cell (i := k * 6) (by omega)
      have f0 := hrow1.frozen (k * 6)
      obtain ⟨x1, d1⟩ := hrow1.cell (i := k * 6 + 1) (by omega)
      have f1 := hrow1.frozen (k * 6 + 1)
      obtain ⟨x2, d2⟩ := hrow1.cell (i := k * 6 + 2) (by omega)
      have f2 := hrow1.frozen (k * 6 + 2)
      obtain ⟨x3, d3⟩ := hrow1.cell (i := k * 6 + 3) (by omega)
      have f3 := hrow1.frozen (k * 6 + 3)
      obtain ⟨x4, d4⟩ := hrow1.cell (i := k * 6 + 4) (by omega)
      have f4 := hrow1.frozen (k * 6 + 4)
      obtain ⟨x5, d5⟩ := hrow1.cell (i := k * 6 + 5) (by omega)
      have f5 := hrow1.frozen (k * 6 + 5)
      have step := fill_stepF RStm_kept RStm_lowers hlt (Nat.le_refl _) hbl hrow (unhide HF) hb1 rfl hR1'
      have ST := hide step
      clear c0 c1 c2 c3 c4 c5 step hR1' hrow1
      go_wp2
      go_roundg (xs.length - (k + 1))
      case measure => have := unhide HG; omega
      case rel => exact ⟨k + 1, by omega, rfl, by go_num, unhide ST⟩
    · have e : k = xs.length := by omega
      have hb0 := hrow.lt
      have D := hide (fill_done RStm_lowers hb0 (unhide HNB) (unhide HN) (by have := unhide HF; rwa [e] at this))
      clear hrow
      go_wp2
      go_ret
      exact ⟨_, rfl, unhide D, hbl⟩

end Go.Proofs.YtmglbkndjnflkaaGreatDoor
