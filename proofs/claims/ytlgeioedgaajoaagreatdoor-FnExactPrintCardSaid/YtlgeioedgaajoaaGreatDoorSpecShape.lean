import Derived.Test.YtlgeioedgaajoaaGreatDoorPureB
import Derived.Test.YtlgeioedgaajoaaGreatDoorSpecEq
import Derived.Test.YtlgeioedgaajoaaGreatDoorVars
namespace Go.Proofs.YtlgeioedgaajoaaGreatDoor
open Go.RowKit
set_option linter.unusedSimpArgs false
set_option linter.unusedVariables false

set_option maxRecDepth 100000 in
set_option maxHeartbeats 16000000 in
theorem specShape_ok (ns : List DNode) (v : Value) (w : World) (h1 : SlAt 5 112 RNode 0 w v ns) (hsm : ∀ n, n ∈ ns → n.ins.length + n.outs.length + n.vars.length ≤ 1048576) :
    Calls Tryz.prog 10 #[.agg #[v]] w (Ans (.bool (shapeB ns)) w) := by
  have n1 := h1.len'
  obtain ⟨b0, c0, rfl⟩ := h1.shape
  obtain ⟨_, _, hv0, _, _, hx⟩ := h1
  simp only [Value.slice.injEq] at hv0
  obtain ⟨rfl, _, rfl⟩ := hv0
  have HX := hide hx
  have HSM := hide hsm
  clear hx hsm
  have B0 := hide ((Below.refl w.heap.size w).alloc (Nat.le_refl _) (.cells #[.slice b0 ns.length c0] 29))
  simp only [shapeB]
  by_cases g1 : ns.length < 1
  · have e : decide (1 ≤ ns.length ∧ ns.length ≤ 200) = false := by rw [decide_eq_false_iff_not]; omega
    rw [e, Bool.false_and]
    have d1 : decide ((ns.length : Int) < 1) = true := by rw [decide_eq_true_iff]; omega
    clear e
    go_enter Tryz.func10, Tryz.ntmps10
    go_wp2
    go_ret
    exact ⟨rfl, unhide B0⟩
  have d1 : decide ((ns.length : Int) < 1) = false := by rw [decide_eq_false_iff_not]; omega
  by_cases g2 : 200 < ns.length
  · have e : decide (1 ≤ ns.length ∧ ns.length ≤ 200) = false := by rw [decide_eq_false_iff_not]; omega
    rw [e, Bool.false_and]
    have d2 : decide (200 < (ns.length : Int)) = true := by rw [decide_eq_true_iff]; omega
    clear e
    go_enter Tryz.func10, Tryz.ntmps10
    go_wp2
    go_ret
    exact ⟨rfl, unhide B0⟩
  have d2 : decide (200 < (ns.length : Int)) = false := by rw [decide_eq_false_iff_not]; omega
  have e : decide (1 ≤ ns.length ∧ ns.length ≤ 200) = true := by rw [decide_eq_true_iff]; omega
  rw [e, Bool.true_and]
  clear e
  go_enter Tryz.func10, Tryz.ntmps10
  go_wp2
  go_loopg [25] ns.length (fun g i wr => ∃ (k : Nat), k ≤ ns.length ∧ g = ns.length - k ∧ i = .int .i64 k ∧ Below w.heap.size w wr ∧ ∀ j (h : j < ns.length), j < k → nodeB ns[j] = true)
  case atStart => exact ⟨0, Nat.zero_le _, by omega, rfl, unhide B0, fun j _ h => absurd h (Nat.not_lt_zero _)⟩
  case round =>
    obtain ⟨k, hk, hg, rfl, hblN, hall⟩ := hrel
    rename World => wN
    have HG := hide hg
    have HA := hide hall
    have HBN := hide hblN
    clear hg hall
    by_cases hlt : k < ns.length
    case neg =>
      have HT : Hid (ns.all nodeB = true) := by
        show ns.all nodeB = true
        rw [List.all_eq_true]
        intro x hx
        obtain ⟨j, hj, rfl⟩ := List.getElem_of_mem hx
        exact unhide HA j hj (by omega)
      go_wp2
      go_ret
      exact ⟨ret_bool (unhide HT).symm, hblN⟩
    obtain ⟨b, o, cs, hbo, _, hb, hcs, hc, hR⟩ := unhide HX k hlt
    subst hbo
    have hR := RNode_kept.stays _ _ _ _ _ hblN hR
    have hc : ∀ j (hj : j < cs.length), wN.cell? ⟨b, o + k * 5 + j, none⟩ = some cs[j] := fun j hj => by rw [hblN.cell (p := ⟨b, _, none⟩) hb]; exact hc j hj
    have hsmk := unhide HSM ns[k] (List.getElem_mem hlt)
    have HFALL : Hid (nodeB ns[k] = false → ns.all nodeB = false) := fun h => by
      rw [List.all_eq_false]
      exact ⟨ns[k], List.getElem_mem hlt, by rw [h]; decide⟩
    have HAALL : Hid (nodeB ns[k] = true → ∀ j (h : j < ns.length), j < k + 1 → nodeB ns[j] = true) := fun hc j h h1 => by
      by_cases e : j = k
      · subst e; exact hc
      · exact unhide HA j h (by omega)
    clear hblN
    generalize ns[k] = nd at *
    obtain ⟨s, ins, outs, vars, eqs⟩ := nd
    obtain ⟨ni, no, nv, ne, rfl, hsn, q1, q2, q3, q4⟩ := hR
    simp only at hsn q1 q2 q3 q4 hsmk
    have l1 := q1.len'
    have l2 := q2.len'
    have l3 := q3.len'
    have l4 := q4.len'
    obtain ⟨b1, c1, rfl⟩ := q1.shape
    obtain ⟨b2, c2, rfl⟩ := q2.shape
    obtain ⟨b3, c3, rfl⟩ := q3.shape
    obtain ⟨b4, c4, rfl⟩ := q4.shape
    have G1 := hide q1
    have G2 := hide q2
    have G3 := hide q3
    have G4 := hide q4
    have y0 := hc 0 (by simp)
    have y1 := hc 1 (by simp)
    have y2 := hc 2 (by simp)
    have y3 := hc 3 (by simp)
    have y4 := hc 4 (by simp)
    simp only [Nat.mul_one, Nat.add_zero, List.getElem_cons_zero, List.getElem_cons_succ] at y0 y1 y2 y3 y4
    clear q1 q2 q3 q4 hc hcs
    have BN0 := hide ((Below.refl wN.heap.size wN).alloc (Nat.le_refl _) (.cells #[.string s, .slice b1 ins.length c1, .slice b2 outs.length c2, .slice b3 vars.length c3, .slice b4 eqs.length c4] 38))
    go_wp2_with fail
    refine (l1Vars_ok ⟨s, ins, outs, vars, eqs⟩ _ _ _ _ _ ((unhide G1).stays RVar_kept (unhide BN0)) ((unhide G2).stays RVar_kept (unhide BN0)) ((unhide G3).stays RVar_kept (unhide BN0)) hsmk).mono ?_
    rintro e w1 ⟨vv, rfl, hVS, hb1⟩
    simp only at hVS
    have HBX1 := hide (box_of hb1)
    have B1 : Hid (Below w.heap.size w w1) := (unhide HBN).trans ((unhide BN0).mono (unhide HBN).size |>.trans (hb1.mono (by have := (unhide HBN).size; simp; omega)))
    have HN1 : Hid (Below wN.heap.size wN w1) := (unhide BN0).trans (hb1.mono (by simp))
    clear hb1 y0 y1 y2 y3 y4
    have hvl : (ins ++ outs ++ vars).length = ins.length + outs.length + vars.length := by rw [List.length_append, List.length_append]
    generalize hvs : ins ++ outs ++ vars = vs at *
    have HVE := hide hvs
    have HVL := hide hvl
    obtain ⟨bv, cv, rfl⟩ := hVS.shape
    obtain ⟨_, _, hvv, _, hvn, hvx⟩ := hVS
    simp only [Value.slice.injEq] at hvv
    obtain ⟨rfl, _, rfl⟩ := hvv
    unfold Len at hvn
    have HVX := hide hvx
    clear hvs hvl hvx
    have ka0 : w1.cell? ⟨wN.heap.size, 0, none⟩ = some (.string s) := by rw [box_cell (B := 0) (unhide HBX1) 0]; rfl
    have ka1 : w1.cell? ⟨wN.heap.size, 1, none⟩ = some (.slice b1 ins.length c1) := by rw [box_cell (B := 0) (unhide HBX1) 1]; rfl
    have ka2 : w1.cell? ⟨wN.heap.size, 2, none⟩ = some (.slice b2 outs.length c2) := by rw [box_cell (B := 0) (unhide HBX1) 2]; rfl
    have ka4 : w1.cell? ⟨wN.heap.size, 4, none⟩ = some (.slice b4 eqs.length c4) := by rw [box_cell (B := 0) (unhide HBX1) 4]; rfl
    go_wp2_with fail
    refine (l1Name_ok s _ hsn).mono ?_
    rintro e w2 ⟨rfl, hb2⟩
    have HBX2 : Hid (Below (wN.heap.size + 1) _ w2) := (unhide HBX1).trans (hb2.mono (by have := (unhide HBX1).size; simp at this; omega))
    have B2 : Hid (Below w.heap.size w w2) := (unhide B1).trans (hb2.mono (unhide B1).size)
    have HW12 := hide hb2
    clear hb2 ka0 ka1 ka2 ka4
    have kb0 : w2.cell? ⟨wN.heap.size, 0, none⟩ = some (.string s) := by rw [box_cell (B := 0) (unhide HBX2) 0]; rfl
    have kb1 : w2.cell? ⟨wN.heap.size, 1, none⟩ = some (.slice b1 ins.length c1) := by rw [box_cell (B := 0) (unhide HBX2) 1]; rfl
    have kb2 : w2.cell? ⟨wN.heap.size, 2, none⟩ = some (.slice b2 outs.length c2) := by rw [box_cell (B := 0) (unhide HBX2) 2]; rfl
    have kb4 : w2.cell? ⟨wN.heap.size, 4, none⟩ = some (.slice b4 eqs.length c4) := by rw [box_cell (B := 0) (unhide HBX2) 4]; rfl
    cases hnm : nameB s
    · have HF := hide (unhide HFALL (node_no_name ⟨s, ins, outs, vars, eqs⟩ hnm))
      go_wp2
      go_ret
      exact ⟨ret_bool (unhide HF).symm, unhide B2⟩
    by_cases g3 : outs.length < 1
    · have dd : decide ((outs.length : Int) < 1) = true := by rw [decide_eq_true_iff]; omega
      have HF := hide (unhide HFALL (node_no_len ⟨s, ins, outs, vars, eqs⟩ (by simp only; omega)))
      go_wp2
      go_ret
      exact ⟨ret_bool (unhide HF).symm, unhide B2⟩
    have d3 : decide ((outs.length : Int) < 1) = false := by rw [decide_eq_false_iff_not]; omega
    by_cases g4 : 500 < vs.length
    · have dd : decide (500 < (vs.length : Int)) = true := by rw [decide_eq_true_iff]; omega
      have HF := hide (unhide HFALL (node_no_len ⟨s, ins, outs, vars, eqs⟩ (by have := unhide HVL; simp only; omega)))
      go_wp2
      go_ret
      exact ⟨ret_bool (unhide HF).symm, unhide B2⟩
    have d4 : decide (500 < (vs.length : Int)) = false := by rw [decide_eq_false_iff_not]; omega
    by_cases g5 : eqs.length < 1
    · have dd : decide ((eqs.length : Int) < 1) = true := by rw [decide_eq_true_iff]; omega
      have HF := hide (unhide HFALL (node_no_len ⟨s, ins, outs, vars, eqs⟩ (by simp only; omega)))
      go_wp2
      go_ret
      exact ⟨ret_bool (unhide HF).symm, unhide B2⟩
    have d5 : decide ((eqs.length : Int) < 1) = false := by rw [decide_eq_false_iff_not]; omega
    by_cases g6 : 500 < eqs.length
    · have dd : decide (500 < (eqs.length : Int)) = true := by rw [decide_eq_true_iff]; omega
      have HF := hide (unhide HFALL (node_no_len ⟨s, ins, outs, vars, eqs⟩ (by simp only; omega)))
      go_wp2
      go_ret
      exact ⟨ret_bool (unhide HF).symm, unhide B2⟩
    have d6 : decide (500 < (eqs.length : Int)) = false := by rw [decide_eq_false_iff_not]; omega
    go_wp2
    go_loopg [60] vs.length (fun g i wr => ∃ (q : Nat), q ≤ vs.length ∧ g = vs.length - q ∧ i = .int .i64 q ∧ Below w2.heap.size w2 wr ∧ ∀ j (h : j < vs.length), j < q → vbB (ins.length + outs.length) j vs[j] = true)
    case atStart => exact ⟨0, Nat.zero_le _, by omega, rfl, Below.refl _ _, fun j _ h => absurd h (Nat.not_lt_zero _)⟩
    case round =>
      obtain ⟨q, hq, hg2, rfl, hblq, hallq⟩ := hrel
      rename World => wq
      have HG2 := hide hg2
      have HAQ := hide hallq
      have HBQ := hide hblq
      have BQ : Hid (Below w.heap.size w wq) := (unhide B2).trans (hblq.mono (unhide B2).size)
      have HBXQ : Hid (Below (wN.heap.size + 1) _ wq) := (unhide HBX2).trans (hblq.mono (by have := (unhide HBX2).size; simp at this; omega))
      clear hg2 hallq hblq kb0 kb1 kb2 kb4
      have kc0 : wq.cell? ⟨wN.heap.size, 0, none⟩ = some (.string s) := by rw [box_cell (B := 0) (unhide HBXQ) 0]; rfl
      have kc1 : wq.cell? ⟨wN.heap.size, 1, none⟩ = some (.slice b1 ins.length c1) := by rw [box_cell (B := 0) (unhide HBXQ) 1]; rfl
      have kc2 : wq.cell? ⟨wN.heap.size, 2, none⟩ = some (.slice b2 outs.length c2) := by rw [box_cell (B := 0) (unhide HBXQ) 2]; rfl
      have kc4 : wq.cell? ⟨wN.heap.size, 4, none⟩ = some (.slice b4 eqs.length c4) := by rw [box_cell (B := 0) (unhide HBXQ) 4]; rfl
      have hNq : wN.heap.size < wq.heap.size := by have := (unhide HBXQ).size; simp at this; omega
      by_cases hltq : q < vs.length
      · obtain ⟨bq, oq, csq, hbo, _, hbq, hcsq, hcq, hRq⟩ := unhide HVX q hltq
        subst hbo
        have H1Q : Below w1.heap.size w1 wq := (unhide HW12).trans ((unhide HBQ).mono (unhide HW12).size)
        have hRq := RVar_kept.stays _ _ _ _ _ H1Q hRq
        have hcq : ∀ j (hj : j < csq.length), wq.cell? ⟨bq, oq + q * 3 + j, none⟩ = some csq[j] := fun j hj => by rw [H1Q.cell (p := ⟨bq, _, none⟩) hbq]; exact hcq j hj
        have HVF : Hid (vbB (ins.length + outs.length) q vs[q] = false → nodeB ⟨s, ins, outs, vars, eqs⟩ = false) := fun h => node_no_var ⟨s, ins, outs, vars, eqs⟩ vs (unhide HVE) q hltq h
        have HVA : Hid (vbB (ins.length + outs.length) q vs[q] = true → ∀ j (h : j < vs.length), j < q + 1 → vbB (ins.length + outs.length) j vs[j] = true) := fun hc j h h1 => by
          by_cases e : j = q
          · subst e; exact hc
          · exact unhide HAQ j h (by omega)
        clear H1Q
        generalize vs[q] = x at *
        obtain ⟨xs, xt, xc⟩ := x
        obtain ⟨vcl, rfl, hsx, htx, hcx⟩ := hRq
        simp only at hsx htx hcx
        obtain ⟨bk, ck, rfl⟩ := hcx.shape
        have r0 := hcq 0 (by simp)
        have r1 := hcq 1 (by simp)
        have r2 := hcq 2 (by simp)
        simp only [Nat.mul_one, Nat.add_zero, List.getElem_cons_zero, List.getElem_cons_succ] at r0 r1 r2
        have HCX := hide hcx
        have lx := hcx.len'
        clear hcx hcq hcsq htx
        have BV0 := hide ((Below.refl wq.heap.size wq).alloc (Nat.le_refl _) (.cells #[.string xs, .int .i64 xt, .slice bk xc.length ck] 64))
        go_wp2_with fail
        refine (l1Name_ok xs _ hsx).mono ?_
        rintro e w3 ⟨rfl, hb3⟩
        have HVB3 := hide (box_of hb3)
        have B3q : Hid (Below wq.heap.size wq w3) := (unhide BV0).trans (hb3.mono (by simp))
        have B3 : Hid (Below w.heap.size w w3) := (unhide BQ).trans ((unhide B3q).mono (unhide BQ).size)
        have HBX3 : Hid (Below (wN.heap.size + 1) _ w3) := (unhide HBXQ).trans ((unhide B3q).mono (by omega))
        have H23 : Hid (Below w2.heap.size w2 w3) := (unhide HBQ).trans ((unhide B3q).mono (unhide HBQ).size)
        have HCX3 := hide ((unhide HCX).stays RCond_kept (unhide B3q))
        obtain ⟨_, _, hvc, _, _, hcxx⟩ := unhide HCX3
        simp only [Value.slice.injEq] at hvc
        obtain ⟨rfl, _, rfl⟩ := hvc
        have HCXX := hide hcxx
        clear hb3 hcxx r0 r1 r2 kc0 kc1 kc2 kc4
        have m1 : w3.cell? ⟨wq.heap.size, 1, none⟩ = some (.int .i64 xt) := by rw [box_cell (B := 0) (unhide HVB3) 1]; rfl
        have m2 : w3.cell? ⟨wq.heap.size, 2, none⟩ = some (.slice bk xc.length ck) := by rw [box_cell (B := 0) (unhide HVB3) 2]; rfl
        have kd0 : w3.cell? ⟨wN.heap.size, 0, none⟩ = some (.string s) := by rw [box_cell (B := 0) (unhide HBX3) 0]; rfl
        have kd1 : w3.cell? ⟨wN.heap.size, 1, none⟩ = some (.slice b1 ins.length c1) := by rw [box_cell (B := 0) (unhide HBX3) 1]; rfl
        have kd2 : w3.cell? ⟨wN.heap.size, 2, none⟩ = some (.slice b2 outs.length c2) := by rw [box_cell (B := 0) (unhide HBX3) 2]; rfl
        have kd4 : w3.cell? ⟨wN.heap.size, 4, none⟩ = some (.slice b4 eqs.length c4) := by rw [box_cell (B := 0) (unhide HBX3) 4]; rfl
        cases hnx : nameB xs
        · have HF := hide (unhide HFALL (unhide HVF (vb_no _ _ ⟨xs, xt, xc⟩ (by rintro ⟨h, _⟩; simp only [hnx] at h; cases h))))
          go_wp2
          go_ret
          exact ⟨ret_bool (unhide HF).symm, unhide B3⟩
        by_cases g7 : xt < 1
        · have dd : decide (xt < 1) = true := by rw [decide_eq_true_iff]; omega
          have HF := hide (unhide HFALL (unhide HVF (vb_no _ _ ⟨xs, xt, xc⟩ (by rintro ⟨_, h, _⟩; simp only at h; omega))))
          go_wp2
          go_ret
          exact ⟨ret_bool (unhide HF).symm, unhide B3⟩
        have d7 : decide (xt < 1) = false := by rw [decide_eq_false_iff_not]; omega
        by_cases g8 : 2 < xt
        · have dd : decide (2 < xt) = true := by rw [decide_eq_true_iff]; omega
          have HF := hide (unhide HFALL (unhide HVF (vb_no _ _ ⟨xs, xt, xc⟩ (by rintro ⟨_, h, _⟩; simp only at h; omega))))
          go_wp2
          go_ret
          exact ⟨ret_bool (unhide HF).symm, unhide B3⟩
        have d8 : decide (2 < xt) = false := by rw [decide_eq_false_iff_not]; omega
        by_cases g9 : 8 < xc.length
        · have dd : decide (8 < (xc.length : Int)) = true := by rw [decide_eq_true_iff]; omega
          have HF := hide (unhide HFALL (unhide HVF (vb_no _ _ ⟨xs, xt, xc⟩ (by rintro ⟨_, _, h, _⟩; simp only at h; omega))))
          go_wp2
          go_ret
          exact ⟨ret_bool (unhide HF).symm, unhide B3⟩
        have d9 : decide (8 < (xc.length : Int)) = false := by rw [decide_eq_false_iff_not]; omega
        have CONT : Hid ((q < ins.length + outs.length → xc.length = 0) → xc.all condB = true → vbB (ins.length + outs.length) q ⟨xs, xt, xc⟩ = true) := fun h1 h2 => (vb_iff _ _ _).2 ⟨hnx, by simp only; omega, by simp only; omega, h2, h1⟩
        have NOCL : Hid (xc.all condB = false → vbB (ins.length + outs.length) q ⟨xs, xt, xc⟩ = false) := fun h => vb_no _ _ _ (by rintro ⟨_, _, _, h4, _⟩; simp only at h4; rw [h] at h4; cases h4)
        by_cases g10 : q < ins.length + outs.length ∧ 0 < xc.length
        · obtain ⟨ga, gb⟩ := g10
          have da : decide ((q : Int) < (ins.length : Int) + (outs.length : Int)) = true := by rw [decide_eq_true_iff]; omega
          have db : decide (0 < (xc.length : Int)) = true := by rw [decide_eq_true_iff]; omega
          have HF := hide (unhide HFALL (unhide HVF (vb_no _ _ ⟨xs, xt, xc⟩ (by rintro ⟨_, _, _, _, h⟩; have := h ga; simp only at this; omega))))
          go_wp2
          go_ret
          exact ⟨ret_bool (unhide HF).symm, unhide B3⟩
        have HCL0 : Hid (q < ins.length + outs.length → xc.length = 0) := fun h => by
          by_cases e : xc.length = 0
          · exact e
          · exact absurd ⟨h, by omega⟩ g10
        by_cases g11 : q < ins.length + outs.length
        · have da : decide ((q : Int) < (ins.length : Int) + (outs.length : Int)) = true := by rw [decide_eq_true_iff]; omega
          have db : decide (0 < (xc.length : Int)) = false := by rw [decide_eq_false_iff_not]; omega
          go_wp2
          go_loopg [103] xc.length (fun g i wr => ∃ (r : Nat), r ≤ xc.length ∧ g = xc.length - r ∧ i = .int .i64 r ∧ Below w3.heap.size w3 wr ∧ ∀ j (h : j < xc.length), j < r → condB xc[j] = true)
          case atStart => exact ⟨0, Nat.zero_le _, by omega, rfl, Below.refl _ _, fun j _ h => absurd h (Nat.not_lt_zero _)⟩
          case round =>
            obtain ⟨r, hr, hg3, rfl, hbl3, hall3⟩ := hrel
            have HG3 := hide hg3
            have HA3 := hide hall3
            have HB3 := hide hbl3
            clear hg3 hall3 hbl3
            by_cases hlt3 : r < xc.length
            · have := unhide HCL0 g11
              omega
            · have HVOK := hide (unhide HVA (unhide CONT (unhide HCL0) (by
                rw [List.all_eq_true]
                intro x hx
                obtain ⟨j, hj, rfl⟩ := List.getElem_of_mem hx
                exact unhide HA3 j hj (by omega))))
              go_wp2
              go_roundg (vs.length - (q + 1))
              case measure => have := unhide HG2; omega
              case rel => exact ⟨q + 1, by omega, rfl, by go_num, (unhide H23).trans ((unhide HB3).mono (unhide H23).size), unhide HVOK⟩
        · have da : decide ((q : Int) < (ins.length : Int) + (outs.length : Int)) = false := by rw [decide_eq_false_iff_not]; omega
          go_wp2
          go_loopg [103] xc.length (fun g i wr => ∃ (r : Nat), r ≤ xc.length ∧ g = xc.length - r ∧ i = .int .i64 r ∧ Below w3.heap.size w3 wr ∧ ∀ j (h : j < xc.length), j < r → condB xc[j] = true)
          case atStart => exact ⟨0, Nat.zero_le _, by omega, rfl, Below.refl _ _, fun j _ h => absurd h (Nat.not_lt_zero _)⟩
          case round =>
            obtain ⟨r, hr, hg3, rfl, hbl3, hall3⟩ := hrel
            have HG3 := hide hg3
            have HA3 := hide hall3
            have HB3 := hide hbl3
            clear hg3 hall3 hbl3
            by_cases hlt3 : r < xc.length
            · obtain ⟨bc, oc, csc, hbo, _, hbc, hcsc, hcc, hRc⟩ := unhide HCXX r hlt3
              subst hbo
              have hcc : ∀ j (hj : j < csc.length), wr.cell? ⟨bc, oc + r * 2 + j, none⟩ = some csc[j] := fun j hj => by rw [(unhide HB3).cell (p := ⟨bc, _, none⟩) hbc]; exact hcc j hj
              obtain ⟨rfl, hsc⟩ := hRc
              have t0 := hcc 0 (by simp)
              have t1 := hcc 1 (by simp)
              simp only [Nat.mul_one, Nat.add_zero, List.getElem_cons_zero, List.getElem_cons_succ] at t0 t1
              have HC := hide (fun w => l1Name_ok xc[r].name w hsc)
              clear hcc hcsc hsc
              cases hp : nameB xc[r].name
              · have HF := hide (unhide HFALL (unhide HVF (unhide NOCL (by rw [List.all_eq_false]; exact ⟨xc[r], List.getElem_mem hlt3, by unfold condB; rw [hp]; decide⟩))))
                go_wp2_with fail
                refine (unhide HC _).mono ?_
                rintro e w4 ⟨rfl, hb4⟩
                rw [hp]
                go_wp2
                go_ret
                exact ⟨ret_bool (unhide HF).symm, (unhide B3).trans (((unhide HB3).trans (((Below.refl _ _).alloc (unhide HB3).size _).trans (hb4.mono (Nat.le_trans (unhide HB3).size (by simp))))).mono (unhide B3).size)⟩
              · have A' : ∀ j (h : j < xc.length), j < r + 1 → condB xc[j] = true := by
                  intro j h h1
                  by_cases e : j = r
                  · subst e; exact hp
                  · exact unhide HA3 j h (by omega)
                have HA' := hide A'
                clear A'
                go_wp2_with fail
                refine (unhide HC _).mono ?_
                rintro e w4 ⟨rfl, hb4⟩
                rw [hp]
                go_wp2
                go_roundg (xc.length - (r + 1))
                case measure => have := unhide HG3; omega
                case rel => exact ⟨r + 1, by omega, rfl, by go_num, (unhide HB3).trans (((Below.refl _ _).alloc (unhide HB3).size _).trans (hb4.mono (Nat.le_trans (unhide HB3).size (by simp)))), unhide HA'⟩
            · have HVOK := hide (unhide HVA (unhide CONT (unhide HCL0) (by
                rw [List.all_eq_true]
                intro x hx
                obtain ⟨j, hj, rfl⟩ := List.getElem_of_mem hx
                exact unhide HA3 j hj (by omega))))
              go_wp2
              go_roundg (vs.length - (q + 1))
              case measure => have := unhide HG2; omega
              case rel => exact ⟨q + 1, by omega, rfl, by go_num, (unhide H23).trans ((unhide HB3).mono (unhide H23).size), unhide HVOK⟩
      · have HVALL : Hid (∀ i (h : i < vs.length), vbB (ins.length + outs.length) i vs[i] = true) := fun i h => unhide HAQ i h (by omega)
        have HNY : Hid (eqs.all eqB = true → nodeB ⟨s, ins, outs, vars, eqs⟩ = true) := fun h => node_yes ⟨s, ins, outs, vars, eqs⟩ vs (unhide HVE) (by have := unhide HVL; simp only; omega) hnm (unhide HVALL) h
        have HNN : Hid (eqs.all eqB = false → nodeB ⟨s, ins, outs, vars, eqs⟩ = false) := fun h => node_no_eq ⟨s, ins, outs, vars, eqs⟩ h
        have HNQ : Hid (Below wN.heap.size wN wq) := (unhide HN1).trans (((unhide HW12).trans ((unhide HBQ).mono (unhide HW12).size)).mono (unhide HN1).size)
        have HG4 := hide ((unhide G4).stays REq_kept (unhide HNQ))
        obtain ⟨_, _, hve, _, _, hex⟩ := unhide HG4
        simp only [Value.slice.injEq] at hve
        obtain ⟨rfl, _, rfl⟩ := hve
        have HEX := hide hex
        clear hex HVALL HAQ HG2
        go_wp2
        go_loopg [116] eqs.length (fun g i wr => ∃ (r : Nat), r ≤ eqs.length ∧ g = eqs.length - r ∧ i = .int .i64 r ∧ Below wq.heap.size wq wr ∧ ∀ j (h : j < eqs.length), j < r → eqB eqs[j] = true)
        case atStart => exact ⟨0, Nat.zero_le _, by omega, rfl, Below.refl _ _, fun j _ h => absurd h (Nat.not_lt_zero _)⟩
        case round =>
          obtain ⟨r, hr, hg3, rfl, hbl3, hall3⟩ := hrel
          have HG3 := hide hg3
          have HA3 := hide hall3
          have HB3 := hide hbl3
          clear hg3 hall3 hbl3
          by_cases hlt3 : r < eqs.length
          · obtain ⟨bc, oc, csc, hbo, _, hbc, hcsc, hcc, hRc⟩ := unhide HEX r hlt3
            subst hbo
            have hRc := REq_kept.stays _ _ _ _ _ (unhide HB3) hRc
            have hcc : ∀ j (hj : j < csc.length), wr.cell? ⟨bc, oc + r * 4 + j, none⟩ = some csc[j] := fun j hj => by rw [(unhide HB3).cell (p := ⟨bc, _, none⟩) hbc]; exact hcc j hj
            obtain ⟨el, ec, ea, rfl, hsc, e1, e2, e3⟩ := hRc
            obtain ⟨f1, f1c, rfl⟩ := e1.shape
            obtain ⟨f2, f2c, rfl⟩ := e2.shape
            obtain ⟨f3, f3c, rfl⟩ := e3.shape
            have t0 := hcc 0 (by simp)
            have t1 := hcc 1 (by simp)
            have t2 := hcc 2 (by simp)
            have t3 := hcc 3 (by simp)
            simp only [Nat.mul_one, Nat.add_zero, List.getElem_cons_zero, List.getElem_cons_succ] at t0 t1 t2 t3
            have HC := hide (fun ob => l1EqOK_ok eqs[r] _ _ _ (wr.alloc ob) hsc (e1.stays RStr_kept ((Below.refl _ _).alloc (Nat.le_refl _) ob)) (e2.stays RItem_kept ((Below.refl _ _).alloc (Nat.le_refl _) ob)) (e3.stays RItems_kept ((Below.refl _ _).alloc (Nat.le_refl _) ob)))
            clear hcc hcsc hsc e1 e2 e3
            cases hp : eqB eqs[r]
            · have HF := hide (unhide HFALL (unhide HNN (by rw [List.all_eq_false]; exact ⟨eqs[r], List.getElem_mem hlt3, by rw [hp]; decide⟩)))
              go_wp2_with fail
              refine (unhide HC _).mono ?_
              rintro e w4 ⟨rfl, hb4⟩
              rw [hp]
              go_wp2
              go_ret
              exact ⟨ret_bool (unhide HF).symm, (unhide BQ).trans (((unhide HB3).trans (((Below.refl _ _).alloc (unhide HB3).size _).trans (hb4.mono (Nat.le_trans (unhide HB3).size (by simp))))).mono (unhide BQ).size)⟩
            · have A' : ∀ j (h : j < eqs.length), j < r + 1 → eqB eqs[j] = true := by
                intro j h h1
                by_cases e : j = r
                · subst e; exact hp
                · exact unhide HA3 j h (by omega)
              have HA' := hide A'
              clear A'
              go_wp2_with fail
              refine (unhide HC _).mono ?_
              rintro e w4 ⟨rfl, hb4⟩
              rw [hp]
              go_wp2
              go_roundg (eqs.length - (r + 1))
              case measure => have := unhide HG3; omega
              case rel => exact ⟨r + 1, by omega, rfl, by go_num, (unhide HB3).trans (((Below.refl _ _).alloc (unhide HB3).size _).trans (hb4.mono (Nat.le_trans (unhide HB3).size (by simp)))), unhide HA'⟩
          · have HOK := hide (unhide HAALL (unhide HNY (by
              rw [List.all_eq_true]
              intro x hx
              obtain ⟨j, hj, rfl⟩ := List.getElem_of_mem hx
              exact unhide HA3 j hj (by omega))))
            go_wp2
            go_roundg (ns.length - (k + 1))
            case measure => have := unhide HG; omega
            case rel => exact ⟨k + 1, by omega, rfl, by go_num, (unhide BQ).trans ((unhide HB3).mono (unhide BQ).size), unhide HOK⟩

end Go.Proofs.YtlgeioedgaajoaaGreatDoor
