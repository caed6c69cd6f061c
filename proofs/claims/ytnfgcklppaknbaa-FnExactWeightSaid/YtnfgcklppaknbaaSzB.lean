import Derived.Test.YtnfgcklppaknbaaSz
namespace Go.Proofs.Ytnfgcklppaknbaa
open Go.RowKit
set_option linter.unusedSimpArgs false
set_option linter.unusedVariables false

set_option maxHeartbeats 400000 in
theorem szStringS_ok (xs : List ByteArray) (v : Value) (left : Int) (w : World) (hv : SlAt 1 16 RStr 0 w v xs) (hl : 0 ≤ left) (hl2 : left ≤ 1048576) :
    Calls Try.prog 81 #[v, .int .i64 left] w (SzPost w left (wSum wStr xs)) := by
  obtain ⟨a, cap, rfl, _, hn, hx⟩ := hv
  unfold Len at hn
  have HX := hide hx
  clear hx
  by_cases h : left - xs.length < 0
  · go_enter Try.func81, Try.ntmps81
    go_wp2
    go_ret
    exact ⟨_, rfl, Or.inl rfl, Below.refl _ _⟩
  · go_enter Try.func81, Try.ntmps81
    go_wp2
    go_loopg [1, 5] xs.length (fun g l i wr => ∃ (k : Nat) (r : Int), k ≤ xs.length ∧ g = xs.length - k ∧ i = .int .i64 k ∧ l = .int .i64 r ∧ 0 ≤ r ∧ r ≤ left - xs.length - wTo wStr xs k ∧ Below w.heap.size w wr)
    case atStart => exact ⟨0, left - xs.length, Nat.zero_le _, by omega, rfl, rfl, by omega, by rw [wTo_zero]; omega, Below.refl _ _⟩
    case round =>
      obtain ⟨k, r, hk, hg, rfl, rfl, hr0, hr1, hbl⟩ := hrel
      by_cases hlt : k < xs.length
      · obtain ⟨b, o, cs, rfl, _, hb, hcs, hc, hR⟩ := unhide HX k hlt
        have hc : ∀ j (hj : j < cs.length), wr.cell? ⟨b, o + k * 1 + j, none⟩ = some cs[j] := fun j hj => by rw [hbl.cell (p := ⟨b, _, none⟩) hb]; exact hc j hj
        obtain ⟨rfl, hsn⟩ := hR
        have c0 := hc 0 (by simp)
        simp only [Nat.mul_one, Nat.add_zero, List.getElem_cons_zero, List.getElem_cons_succ] at c0
        have hw := wTo_succ wStr xs k hlt
        have hwe : wStr xs[k] = xs[k].size := rfl
        rw [hwe] at hw
        have HW := hide hw
        have HG := hide hg
        clear hw hg hc hcs hwe
        unfold Len at hsn
        generalize xs[k] = s at *
        by_cases hneg : r - s.size < 0
        · go_wp2
          go_ret
          exact ⟨_, rfl, Or.inl rfl, hbl⟩
        · go_wp2
          go_roundg (xs.length - (k + 1))
          case measure => have := unhide HG; omega
          case rel => exact ⟨k + 1, _, by omega, rfl, by go_num, rfl, by omega, by rw [unhide HW]; omega, hbl⟩
      · go_wp2
        go_ret
        have e : k = xs.length := by omega
        subst e
        exact ⟨_, rfl, Or.inr ⟨hr0, by rw [← wTo_all]; omega⟩, hbl⟩

set_option maxHeartbeats 400000 in
theorem szItemSS_ok (xs : List (List DItem)) (v : Value) (left : Int) (w : World) (hv : SlAt 1 24 RItems 0 w v xs) (hl : 0 ≤ left) (hl2 : left ≤ 1048576) :
    Calls Try.prog 83 #[v, .int .i64 left] w (SzPost w left (wSum (wSum wItem) xs)) := by
  obtain ⟨a, cap, rfl, _, hn, hx⟩ := hv
  unfold Len at hn
  have HX := hide hx
  clear hx
  by_cases h : left - xs.length < 0
  · go_enter Try.func83, Try.ntmps83
    go_wp2
    go_ret
    exact ⟨_, rfl, Or.inl rfl, Below.refl _ _⟩
  · go_enter Try.func83, Try.ntmps83
    go_wp2
    go_loopg [1, 5] xs.length (fun g l i wr => ∃ (k : Nat) (r : Int), k ≤ xs.length ∧ g = xs.length - k ∧ i = .int .i64 k ∧ l = .int .i64 r ∧ 0 ≤ r ∧ r ≤ left - xs.length - wTo (wSum wItem) xs k ∧ Below w.heap.size w wr)
    case atStart => exact ⟨0, left - xs.length, Nat.zero_le _, by omega, rfl, rfl, by omega, by rw [wTo_zero]; omega, Below.refl _ _⟩
    case round =>
      obtain ⟨k, r, hk, hg, rfl, rfl, hr0, hr1, hbl⟩ := hrel
      by_cases hlt : k < xs.length
      · obtain ⟨b, o, cs, rfl, _, hb, hcs, hc, hR⟩ := unhide HX k hlt
        have hR := RItems_kept.stays _ _ _ _ _ hbl hR
        have hc : ∀ j (hj : j < cs.length), wr.cell? ⟨b, o + k * 1 + j, none⟩ = some cs[j] := fun j hj => by rw [hbl.cell (p := ⟨b, _, none⟩) hb]; exact hc j hj
        obtain ⟨vl, rfl, hcl⟩ := hR
        have HCL := hide hcl
        clear hcl
        have c0 := hc 0 (by simp)
        simp only [Nat.mul_one, Nat.add_zero, List.getElem_cons_zero, List.getElem_cons_succ] at c0
        have hw := wTo_succ (wSum wItem) xs k hlt
        have HW := hide hw
        have HG := hide hg
        clear hw hg hc hcs
        go_wp2_with fail
        refine (szItemS_ok _ _ _ _ (unhide HCL) hr0 (by omega)).mono ?_
        rintro e w1 ⟨r', rfl, hr | ⟨h0, h1⟩, hb1⟩
        · subst hr
          go_wp2
          go_ret
          exact ⟨_, rfl, Or.inl rfl, hbl.trans (hb1.mono hbl.size)⟩
        · go_wp2
          go_roundg (xs.length - (k + 1))
          case measure => have := unhide HG; omega
          case rel => exact ⟨k + 1, r', by omega, rfl, by go_num, rfl, h0, by rw [unhide HW]; omega, hbl.trans (hb1.mono hbl.size)⟩
      · go_wp2
        go_ret
        have e : k = xs.length := by omega
        subst e
        exact ⟨_, rfl, Or.inr ⟨hr0, by rw [← wTo_all]; omega⟩, hbl⟩

set_option maxHeartbeats 400000 in
theorem szEquation_ok (q : DEq) (l c a : Value) (left : Int) (w : World) (hs : Len q.call.size) (h1 : SlAt 1 16 RStr 0 w l q.lhs) (h2 : SlAt 3 32 RItem 0 w c q.code) (h3 : SlAt 1 24 RItems 0 w a q.args) (hl : 0 ≤ left) (hl2 : left ≤ 1048576) :
    Calls Try.prog 65 #[.agg #[l, c, .string q.call, a], .int .i64 left] w (SzPost w left (wEq q)) := by
  obtain ⟨lhs, code, s, args⟩ := q
  unfold Len at hs
  simp only at hs h1 h2 h3
  have H1 := hide h1
  have H2 := hide h2
  have H3 := hide h3
  clear h1 h2 h3
  go_enter Try.func65, Try.ntmps65
  go_wp2_with fail
  refine (szStringS_ok lhs _ _ _ ?_ ?_ ?_).mono ?_
  · exact (unhide H1).stays RStr_kept ((Below.refl _ _).alloc (Nat.le_refl _) _)
  · omega
  · omega
  rintro e w1 ⟨r1, rfl, hr | ⟨h0, h1⟩, hb1⟩
  · subst hr
    go_wp2
    go_ret
    exact ⟨_, rfl, Or.inl rfl, ((Below.refl _ _).alloc (Nat.le_refl _) _).trans (hb1.mono (by simp))⟩
  obtain ⟨hc1, hf1⟩ := bcell hb1
  have B1 : Below w.heap.size w w1 := ((Below.refl _ _).alloc (Nat.le_refl _) _).trans (hb1.mono (by simp))
  have hz1 : w.heap.size < w1.heap.size := by have := hb1.size; simp at this; omega
  have HB1 := hide hb1
  clear hb1
  go_wp2_with fail
  refine (szItemS_ok code _ _ _ ?_ ?_ ?_).mono ?_
  · exact (unhide H2).stays RItem_kept B1
  · omega
  · omega
  rintro e w2 ⟨r2, rfl, hr | ⟨h2, h3⟩, hb2⟩
  · subst hr
    go_wp2
    go_ret
    exact ⟨_, rfl, Or.inl rfl, B1.trans (hb2.mono B1.size)⟩
  obtain ⟨hc2, hf2⟩ := bcell hb2
  have B2 : Below w.heap.size w w2 := B1.trans (hb2.mono B1.size)
  have hz2 : w.heap.size < w2.heap.size := by have := hb2.size; omega
  clear hb2
  by_cases hneg : r2 - s.size < 0
  · go_wp2
    go_ret
    exact ⟨_, rfl, Or.inl rfl, B2⟩
  go_wp2_with fail
  refine (szItemSS_ok args _ _ _ ?_ ?_ ?_).mono ?_
  · exact (unhide H3).stays RItems_kept B2
  · omega
  · omega
  rintro e w3 ⟨r3, rfl, hr | ⟨h4, h5⟩, hb3⟩
  · subst hr
    go_wp2
    go_ret
    exact ⟨_, rfl, Or.inl rfl, B2.trans (hb3.mono B2.size)⟩
  · go_wp2
    go_ret
    exact ⟨_, rfl, Or.inr ⟨h4, by simp only [wEq]; omega⟩, B2.trans (hb3.mono B2.size)⟩

set_option maxHeartbeats 400000 in
theorem szEquationS_ok (xs : List DEq) (v : Value) (left : Int) (w : World) (hv : SlAt 4 88 REq 0 w v xs) (hl : 0 ≤ left) (hl2 : left ≤ 1048576) :
    Calls Try.prog 42 #[v, .int .i64 left] w (SzPost w left (wSum wEq xs)) := by
  obtain ⟨a, cap, rfl, _, hn, hx⟩ := hv
  unfold Len at hn
  have HX := hide hx
  clear hx
  by_cases h : left - xs.length < 0
  · go_enter Try.func42, Try.ntmps42
    go_wp2
    go_ret
    exact ⟨_, rfl, Or.inl rfl, Below.refl _ _⟩
  · go_enter Try.func42, Try.ntmps42
    go_wp2
    go_loopg [1, 5] xs.length (fun g l i wr => ∃ (k : Nat) (r : Int), k ≤ xs.length ∧ g = xs.length - k ∧ i = .int .i64 k ∧ l = .int .i64 r ∧ 0 ≤ r ∧ r ≤ left - xs.length - wTo wEq xs k ∧ Below w.heap.size w wr)
    case atStart => exact ⟨0, left - xs.length, Nat.zero_le _, by omega, rfl, rfl, by omega, by rw [wTo_zero]; omega, Below.refl _ _⟩
    case round =>
      obtain ⟨k, r, hk, hg, rfl, rfl, hr0, hr1, hbl⟩ := hrel
      by_cases hlt : k < xs.length
      · obtain ⟨b, o, cs, rfl, _, hb, hcs, hc, hR⟩ := unhide HX k hlt
        have hR := REq_kept.stays _ _ _ _ _ hbl hR
        have hc : ∀ j (hj : j < cs.length), wr.cell? ⟨b, o + k * 4 + j, none⟩ = some cs[j] := fun j hj => by rw [hbl.cell (p := ⟨b, _, none⟩) hb]; exact hc j hj
        obtain ⟨l, c, aa, rfl, hsn, g1, g2, g3⟩ := hR
        have G1 := hide g1
        have G2 := hide g2
        have G3 := hide g3
        clear g1 g2 g3
        have c0 := hc 0 (by simp)
        have c1 := hc 1 (by simp)
        have c2 := hc 2 (by simp)
        have c3 := hc 3 (by simp)
        simp only [Nat.mul_one, Nat.add_zero, List.getElem_cons_zero, List.getElem_cons_succ] at c0 c1 c2 c3
        have hw := wTo_succ wEq xs k hlt
        have HW := hide hw
        have HG := hide hg
        clear hw hg hc hcs
        go_wp2_with fail
        refine (szEquation_ok _ _ _ _ _ _ hsn (unhide G1) (unhide G2) (unhide G3) hr0 (by omega)).mono ?_
        rintro e w1 ⟨r', rfl, hr | ⟨h0, h1⟩, hb1⟩
        · subst hr
          go_wp2
          go_ret
          exact ⟨_, rfl, Or.inl rfl, hbl.trans (hb1.mono hbl.size)⟩
        · go_wp2
          go_roundg (xs.length - (k + 1))
          case measure => have := unhide HG; omega
          case rel => exact ⟨k + 1, r', by omega, rfl, by go_num, rfl, h0, by rw [unhide HW]; omega, hbl.trans (hb1.mono hbl.size)⟩
      · go_wp2
        go_ret
        have e : k = xs.length := by omega
        subst e
        exact ⟨_, rfl, Or.inr ⟨hr0, by rw [← wTo_all]; omega⟩, hbl⟩

end Go.Proofs.Ytnfgcklppaknbaa
