import Derived.Test.YtnfgcklppaknbaaSzB
namespace Go.Proofs.Ytnfgcklppaknbaa
open Go.RowKit
set_option linter.unusedSimpArgs false
set_option linter.unusedVariables false

set_option maxHeartbeats 1000000 in
theorem szNode_ok (q : DNode) (i o v x : Value) (left : Int) (w : World) (hs : Len q.name.size) (h1 : SlAt 3 48 RVar 0 w i q.ins) (h2 : SlAt 3 48 RVar 0 w o q.outs) (h3 : SlAt 3 48 RVar 0 w v q.vars) (h4 : SlAt 4 88 REq 0 w x q.eqs) (hl : 0 ≤ left) (hl2 : left ≤ 1048576) :
    Calls Try.prog 23 #[.agg #[.string q.name, i, o, v, x], .int .i64 left] w (SzPost w left (wNode q)) := by
  obtain ⟨s, ins, outs, vars, eqs⟩ := q
  unfold Len at hs
  simp only at hs h1 h2 h3 h4
  have H1 := hide h1
  have H2 := hide h2
  have H3 := hide h3
  have H4 := hide h4
  clear h1 h2 h3 h4
  by_cases hneg : left - s.size < 0
  · go_enter Try.func23, Try.ntmps23
    go_wp2
    go_ret
    exact ⟨_, rfl, Or.inl rfl, (Below.refl _ _).alloc (Nat.le_refl _) _⟩
  go_enter Try.func23, Try.ntmps23
  go_wp2_with fail
  refine (szVarS_ok ins _ _ _ ?_ ?_ ?_).mono ?_
  · exact (unhide H1).stays RVar_kept ((Below.refl _ _).alloc (Nat.le_refl _) _)
  · omega
  · omega
  rintro e w1 ⟨r1, rfl, hr | ⟨p1, q1⟩, hb1⟩
  · subst hr
    go_wp2
    go_ret
    exact ⟨_, rfl, Or.inl rfl, ((Below.refl _ _).alloc (Nat.le_refl _) _).trans (hb1.mono (by simp))⟩
  obtain ⟨hc1, hf1⟩ := bcell hb1
  have B1 : Below w.heap.size w w1 := ((Below.refl _ _).alloc (Nat.le_refl _) _).trans (hb1.mono (by simp))
  have hz1 : w.heap.size < w1.heap.size := by have := hb1.size; simp at this; omega
  clear hb1
  go_wp2_with fail
  refine (szVarS_ok outs _ _ _ ?_ ?_ ?_).mono ?_
  · exact (unhide H2).stays RVar_kept B1
  · omega
  · omega
  rintro e w2 ⟨r2, rfl, hr | ⟨p2, q2⟩, hb2⟩
  · subst hr
    go_wp2
    go_ret
    exact ⟨_, rfl, Or.inl rfl, B1.trans (hb2.mono B1.size)⟩
  obtain ⟨hc2, hf2⟩ := bcell hb2
  have B2 : Below w.heap.size w w2 := B1.trans (hb2.mono B1.size)
  have hz2 : w.heap.size < w2.heap.size := by have := hb2.size; omega
  clear hb2
  go_wp2_with fail
  refine (szVarS_ok vars _ _ _ ?_ ?_ ?_).mono ?_
  · exact (unhide H3).stays RVar_kept B2
  · omega
  · omega
  rintro e w3 ⟨r3, rfl, hr | ⟨p3, q3⟩, hb3⟩
  · subst hr
    go_wp2
    go_ret
    exact ⟨_, rfl, Or.inl rfl, B2.trans (hb3.mono B2.size)⟩
  obtain ⟨hc3, hf3⟩ := bcell hb3
  have B3 : Below w.heap.size w w3 := B2.trans (hb3.mono B2.size)
  have hz3 : w.heap.size < w3.heap.size := by have := hb3.size; omega
  clear hb3
  go_wp2_with fail
  refine (szEquationS_ok eqs _ _ _ ?_ ?_ ?_).mono ?_
  · exact (unhide H4).stays REq_kept B3
  · omega
  · omega
  rintro e w4 ⟨r4, rfl, hr | ⟨p4, q4⟩, hb4⟩
  · subst hr
    go_wp2
    go_ret
    exact ⟨_, rfl, Or.inl rfl, B3.trans (hb4.mono B3.size)⟩
  go_wp2
  go_ret
  exact ⟨_, rfl, Or.inr ⟨p4, by simp only [wNode]; omega⟩, B3.trans (hb4.mono B3.size)⟩

set_option maxHeartbeats 400000 in
theorem szNodeS_ok (xs : List DNode) (v : Value) (left : Int) (w : World) (hv : SlAt 5 112 RNode 0 w v xs) (hl : 0 ≤ left) (hl2 : left ≤ 1048576) :
    Calls Try.prog 12 #[v, .int .i64 left] w (SzPost w left (wSum wNode xs)) := by
  obtain ⟨a, cap, rfl, _, hn, hx⟩ := hv
  unfold Len at hn
  have HX := hide hx
  clear hx
  by_cases h : left - xs.length < 0
  · go_enter Try.func12, Try.ntmps12
    go_wp2
    go_ret
    exact ⟨_, rfl, Or.inl rfl, Below.refl _ _⟩
  · go_enter Try.func12, Try.ntmps12
    go_wp2
    go_loopg [1, 5] xs.length (fun g l i wr => ∃ (k : Nat) (r : Int), k ≤ xs.length ∧ g = xs.length - k ∧ i = .int .i64 k ∧ l = .int .i64 r ∧ 0 ≤ r ∧ r ≤ left - xs.length - wTo wNode xs k ∧ Below w.heap.size w wr)
    case atStart => exact ⟨0, left - xs.length, Nat.zero_le _, by omega, rfl, rfl, by omega, by rw [wTo_zero]; omega, Below.refl _ _⟩
    case round =>
      obtain ⟨k, r, hk, hg, rfl, rfl, hr0, hr1, hbl⟩ := hrel
      by_cases hlt : k < xs.length
      · obtain ⟨b, o, cs, rfl, _, hb, hcs, hc, hR⟩ := unhide HX k hlt
        have hR := RNode_kept.stays _ _ _ _ _ hbl hR
        have hc : ∀ j (hj : j < cs.length), wr.cell? ⟨b, o + k * 5 + j, none⟩ = some cs[j] := fun j hj => by rw [hbl.cell (p := ⟨b, _, none⟩) hb]; exact hc j hj
        obtain ⟨ni, no, nv, ne, rfl, hsn, g1, g2, g3, g4⟩ := hR
        have G1 := hide g1
        have G2 := hide g2
        have G3 := hide g3
        have G4 := hide g4
        clear g1 g2 g3 g4
        have c0 := hc 0 (by simp)
        have c1 := hc 1 (by simp)
        have c2 := hc 2 (by simp)
        have c3 := hc 3 (by simp)
        have c4 := hc 4 (by simp)
        simp only [Nat.mul_one, Nat.add_zero, List.getElem_cons_zero, List.getElem_cons_succ] at c0 c1 c2 c3 c4
        have hw := wTo_succ wNode xs k hlt
        have HW := hide hw
        have HG := hide hg
        clear hw hg hc hcs
        go_wp2_with fail
        refine (szNode_ok _ _ _ _ _ _ _ hsn (unhide G1) (unhide G2) (unhide G3) (unhide G4) hr0 (by omega)).mono ?_
        rintro e w1 ⟨r', rfl, hr | ⟨h0, h1⟩, hb1⟩
        · subst hr
          go_wp2
          go_ret
          exact ⟨_, rfl, Or.inl rfl, hbl.trans (hb1.mono hbl.size)⟩
        · go_wp2
          go_roundg (xs.length - (k + 1))
          case measure => have := unhide HG; omega
          case rel => exact ⟨k + 1, r', by omega, rfl, by go_num, rfl, h0, by rw [unhide HW]; omega, hbl.trans (hb1.mono hbl.size)⟩
      · go_wp2
        go_ret
        have e : k = xs.length := by omega
        subst e
        exact ⟨_, rfl, Or.inr ⟨hr0, by rw [← wTo_all]; omega⟩, hbl⟩

set_option maxHeartbeats 400000 in
theorem szProgram_ok (ns : List DNode) (v : Value) (left : Int) (w : World) (h1 : SlAt 5 112 RNode 0 w v ns) (hl : 0 ≤ left) (hl2 : left ≤ 1048576) :
    Calls Try.prog 5 #[.agg #[v], .int .i64 left] w (SzPost w left (wSum wNode ns)) := by
  have H1 := hide h1
  clear h1
  go_enter Try.func5, Try.ntmps5
  go_wp2_with fail
  refine (szNodeS_ok ns _ _ _ ?_ ?_ ?_).mono ?_
  · exact (unhide H1).stays RNode_kept ((Below.refl _ _).alloc (Nat.le_refl _) _)
  · omega
  · omega
  rintro e w1 ⟨r1, rfl, hr | ⟨p1, q1⟩, hb1⟩
  · subst hr
    go_wp2
    go_ret
    exact ⟨_, rfl, Or.inl rfl, ((Below.refl _ _).alloc (Nat.le_refl _) _).trans (hb1.mono (by simp))⟩
  · go_wp2
    go_ret
    exact ⟨_, rfl, Or.inr ⟨p1, by omega⟩, ((Below.refl _ _).alloc (Nat.le_refl _) _).trans (hb1.mono (by simp))⟩

end Go.Proofs.Ytnfgcklppaknbaa
