import Derived.Test.YtmglbkndjnflkaaGreatDoorStepAll
namespace Go.Proofs.YtmglbkndjnflkaaGreatDoor
open Go.RowKit
set_option linter.unusedSimpArgs false
set_option linter.unusedVariables false

theorem and_no {a b c : Bool} (h : c = (a && b)) (ha : a = false) : c = false := by rw [h, ha]; rfl
theorem and_yes {a b c : Bool} (h : c = (a && b)) (ha : a = true) : c = b := by rw [h, ha]; rfl
theorem head_no {n : Bool} {p q r s : Prop} [Decidable p] [Decidable q] [Decidable r] [Decidable s] (h : n = false ∨ ¬ p ∨ ¬ q ∨ ¬ r ∨ ¬ s) : (n && decide p && decide q && decide r && decide s) = false := by
  rcases h with h | h | h | h | h <;> simp [h]

theorem varBad_at (vars : List ByteArray) (i : Nat) (hi : i < vars.length) : varBad vars i = (!nameB vars[i] || decide (placeI vars vars[i] < (i : Int))) := by
  unfold varBad
  rw [List.getElem?_eq_getElem hi]
theorem ifBad_at (body : List DStm) (i : Nat) (hi : i < body.length) : ifBad body i = (body[i].kind == 4 && (List.range (partsI (kindsOf body) i).2.toNat).any (fun j => decide (i ≤ j) && (match body[j]? with | some t => wrB t body[i].name | none => false))) := by
  unfold ifBad
  rw [List.getElem?_eq_getElem hi]
  rfl
theorem parts_hi (ks : List Int) (i : Nat) : (partsI ks i).2 < (ks.length : Int) ∧ -1 ≤ (partsI ks i).2 ∨ (partsI ks i).2 < 0 := by
  by_cases h : 0 ≤ (partsI ks i).2
  · left
    have := pGo_bd (ks.drop i) i 0 (-1) h
    rw [List.length_drop] at this
    unfold partsI at *
    omega
  · right; omega
theorem any_yes {n : Nat} {p : Nat → Bool} (i : Nat) (hi : i < n) (h : p i = true) : (List.range n).any p = true := by
  rw [List.any_eq_true]
  exact ⟨i, List.mem_range.2 hi, h⟩
theorem any_no {n : Nat} {p : Nat → Bool} (h : ∀ j, j < n → p j = false) : (List.range n).any p = false := by
  rw [List.any_eq_false]
  intro x hx
  rw [h x (List.mem_range.1 hx)]
  simp
theorem class_at (ks : List DClass) (i : Nat) (hi : i < ks.length) : classB ks i = ((nameB ks[i].name && decide (1 ≤ ks[i].outs.length) && decide (ks[i].mems.length ≤ 1000) && decide (ks[i].insts.length ≤ 1000) && decide (ks[i].body.length ≤ 30000))
    && ((List.range i).all (fun j => !(match ks[j]? with | some y => y.name.toList == ks[i].name.toList | none => false))
    && (decide ((varsOf ks[i]).length ≤ 1000)
    && ((List.range (varsOf ks[i]).length).all (fun j => !varBad (varsOf ks[i]) j)
    && ((ks[i].ins ++ ks[i].outs).all (fun t => decide (1 ≤ t.type ∧ t.type ≤ 2))
    && (ks[i].mems.all memB
    && (ks[i].insts.all (fun g => decide (0 ≤ g ∧ g < (i : Int)))
    && (ks[i].body.all (stmB ks ks[i])
    && (nestF (ks[i].body.length + 1) (kindsOf ks[i].body) 0
    && (List.range ks[i].body.length).all (fun j => !ifBad ks[i].body j)))))))))) := by
  unfold classB
  rw [List.getElem?_eq_getElem hi]
  rfl

set_option maxRecDepth 20000 in
set_option maxHeartbeats 8000000 in
theorem l3ClassOK_ok (ks : List DClass) (v : Value) (at' : Nat) (w : World) (hm : SlAt 7 160 RClass 0 w v ks) (hat : at' < ks.length) (hsum : ∀ i (hi : i < ks.length), ks[i].ins.length + ks[i].outs.length + ks[i].locs.length ≤ 1048576) :
    Calls Tryz.prog 20 #[.agg #[v], .int .i64 (at' : Int)] w (Ans (.bool (classB ks at')) w) := by
  have HMM := hide hm
  have hlm := hm.lenM
  obtain ⟨_, cm, rfl, _, _, hx⟩ := hm
  obtain ⟨bm, om, cs, rfl, _, hbm, _, hc, ⟨v1, v2, v3, v4, v5, v6, rfl, hnl, t1, t2, t3, t4, t5, t6⟩⟩ := hx at' hat
  have HCI : Hid (ClassIn w ks[at'] v1 v2 v3 v4 v5 v6) := ⟨t1, t2, t3, t4, t5, t6, hnl, hsum at' hat⟩
  have HNM : Hid (∀ j (hj : j < ks.length), bm < w.heap.size ∧ w.cell? ⟨bm, om + j * 7, none⟩ = some (.string ks[j].name)) := fun j hj => by
    obtain ⟨b9, o9, cs9, e9, _, hb9, _, hc9, ⟨_, _, _, _, _, _, rfl, _⟩⟩ := hx j hj
    simp only [Option.some.injEq, Addr.mk.injEq] at e9
    obtain ⟨rfl, rfl, _⟩ := e9
    exact ⟨hb9, hc9 0 (by simp)⟩
  have HB := hide (class_at ks at' hat)
  generalize classB ks at' = R at *
  generalize hk : ks[at'] = k at *
  clear hk hx hsum
  obtain ⟨b1, c1, rfl⟩ := t1.shape
  obtain ⟨b2, c2, rfl⟩ := t2.shape
  obtain ⟨b3, c3, rfl⟩ := t3.shape
  obtain ⟨b4, c4, rfl⟩ := t4.shape
  obtain ⟨b5, c5, rfl⟩ := t5.shape
  obtain ⟨b6, c6, rfl⟩ := t6.shape
  have l2 := t2.lenM
  have l4 := t4.lenM
  have l5 := t5.lenM
  have l6 := t6.lenM
  have y0 := hc 0 (by simp)
  have y1 := hc 1 (by simp)
  have y2 := hc 2 (by simp)
  have y3 := hc 3 (by simp)
  have y4 := hc 4 (by simp)
  have y5 := hc 5 (by simp)
  have y6 := hc 6 (by simp)
  simp only [Nat.add_zero, List.getElem_cons_zero, List.getElem_cons_succ] at y0 y1 y2 y3 y4 y5 y6
  clear t1 t2 t3 t4 t5 t6 hc
  have hA1 : Below w.heap.size w (w.alloc (.cells #[.slice (some ⟨bm, om, none⟩) ks.length cm] 29)) := (Below.refl _ _).alloc (Nat.le_refl _) _
  have hA : Below w.heap.size w ((w.alloc (.cells #[.slice (some ⟨bm, om, none⟩) ks.length cm] 29)).alloc (.cells #[.string k.name, .slice b1 k.ins.length c1, .slice b2 k.outs.length c2, .slice b3 k.locs.length c3, .slice b4 k.mems.length c4, .slice b5 k.insts.length c5, .slice b6 k.body.length c6] 40)) := hA1.alloc (by simp) _
  have hB1 : BlkAt ((w.alloc (.cells #[.slice (some ⟨bm, om, none⟩) ks.length cm] 29)).alloc (.cells #[.string k.name, .slice b1 k.ins.length c1, .slice b2 k.outs.length c2, .slice b3 k.locs.length c3, .slice b4 k.mems.length c4, .slice b5 k.insts.length c5, .slice b6 k.body.length c6] 40)) w.heap.size 29 #[.slice (some ⟨bm, om, none⟩) ks.length cm] := (blk_box w #[.slice (some ⟨bm, om, none⟩) ks.length cm] 29).below ((Below.refl _ _).alloc (Nat.le_refl _) _) (by simp)
  have hB2 : BlkAt ((w.alloc (.cells #[.slice (some ⟨bm, om, none⟩) ks.length cm] 29)).alloc (.cells #[.string k.name, .slice b1 k.ins.length c1, .slice b2 k.outs.length c2, .slice b3 k.locs.length c3, .slice b4 k.mems.length c4, .slice b5 k.insts.length c5, .slice b6 k.body.length c6] 40)) (w.heap.size + 1) 40 #[.string k.name, .slice b1 k.ins.length c1, .slice b2 k.outs.length c2, .slice b3 k.locs.length c3, .slice b4 k.mems.length c4, .slice b5 k.insts.length c5, .slice b6 k.body.length c6] := by
    have h0 := blk_box (w.alloc (.cells #[.slice (some ⟨bm, om, none⟩) ks.length cm] 29)) #[.string k.name, .slice b1 k.ins.length c1, .slice b2 k.outs.length c2, .slice b3 k.locs.length c3, .slice b4 k.mems.length c4, .slice b5 k.insts.length c5, .slice b6 k.body.length c6] 40
    rw [show (w.alloc (.cells #[.slice (some ⟨bm, om, none⟩) ks.length cm] 29)).heap.size = w.heap.size + 1 from by simp] at h0
    exact h0
  obtain ⟨BX, hBX⟩ : ∃ BX : World → Prop, ∀ w', BX w' ↔ Below (w.heap.size + 2) ((w.alloc (.cells #[.slice (some ⟨bm, om, none⟩) ks.length cm] 29)).alloc (.cells #[.string k.name, .slice b1 k.ins.length c1, .slice b2 k.outs.length c2, .slice b3 k.locs.length c3, .slice b4 k.mems.length c4, .slice b5 k.insts.length c5, .slice b6 k.body.length c6] 40)) w' := ⟨_, fun _ => Iff.rfl⟩
  have hAz : ((w.alloc (.cells #[.slice (some ⟨bm, om, none⟩) ks.length cm] 29)).alloc (.cells #[.string k.name, .slice b1 k.ins.length c1, .slice b2 k.outs.length c2, .slice b3 k.locs.length c3, .slice b4 k.mems.length c4, .slice b5 k.insts.length c5, .slice b6 k.body.length c6] 40)).heap.size = w.heap.size + 2 := by simp
  have HX1 : Hid (∀ w1, BX w1 → Below w.heap.size w w1) := fun w1 h => hA.trans (((hBX w1).1 h).mono (by omega))
  have HX2 : Hid (∀ w1 w2, BX w1 → Below w1.heap.size w1 w2 → BX w2) := fun w1 w2 h h2 => (hBX w2).2 (((hBX w1).1 h).trans (h2.mono (by have := ((hBX w1).1 h).size; omega)))
  have HX4 : Hid (∀ w1, BX w1 → w1.cell? ⟨w.heap.size, 0, none⟩ = some (.slice (some ⟨bm, om, none⟩) ks.length cm) ∧ w1.cell? ⟨w.heap.size + 1, 0, none⟩ = some (.string k.name) ∧ w1.cell? ⟨w.heap.size + 1, 1, none⟩ = some (.slice b1 k.ins.length c1) ∧ w1.cell? ⟨w.heap.size + 1, 2, none⟩ = some (.slice b2 k.outs.length c2) ∧ w1.cell? ⟨w.heap.size + 1, 3, none⟩ = some (.slice b3 k.locs.length c3) ∧ w1.cell? ⟨w.heap.size + 1, 4, none⟩ = some (.slice b4 k.mems.length c4) ∧ w1.cell? ⟨w.heap.size + 1, 5, none⟩ = some (.slice b5 k.insts.length c5) ∧ w1.cell? ⟨w.heap.size + 1, 6, none⟩ = some (.slice b6 k.body.length c6)) := fun w1 h => ⟨(hB1.below ((hBX w1).1 h) (by omega)).cell (i := 0) (v := .slice (some ⟨bm, om, none⟩) ks.length cm) rfl, (hB2.below ((hBX w1).1 h) (by omega)).cell (i := 0) (v := .string k.name) rfl, (hB2.below ((hBX w1).1 h) (by omega)).cell (i := 1) (v := .slice b1 k.ins.length c1) rfl, (hB2.below ((hBX w1).1 h) (by omega)).cell (i := 2) (v := .slice b2 k.outs.length c2) rfl, (hB2.below ((hBX w1).1 h) (by omega)).cell (i := 3) (v := .slice b3 k.locs.length c3) rfl, (hB2.below ((hBX w1).1 h) (by omega)).cell (i := 4) (v := .slice b4 k.mems.length c4) rfl, (hB2.below ((hBX w1).1 h) (by omega)).cell (i := 5) (v := .slice b5 k.insts.length c5) rfl, (hB2.below ((hBX w1).1 h) (by omega)).cell (i := 6) (v := .slice b6 k.body.length c6) rfl⟩
  have HX5 : Hid (∀ w1, BX w1 → w.heap.size + 2 ≤ w1.heap.size) := fun w1 h => by have := ((hBX w1).1 h).size; omega
  have HX0 : Hid (BX ((w.alloc (.cells #[.slice (some ⟨bm, om, none⟩) ks.length cm] 29)).alloc (.cells #[.string k.name, .slice b1 k.ins.length c1, .slice b2 k.outs.length c2, .slice b3 k.locs.length c3, .slice b4 k.mems.length c4, .slice b5 k.insts.length c5, .slice b6 k.body.length c6] 40))) := (hBX _).2 (Below.refl _ _)
  have HX3 : Hid (∀ w1 w2 v (xs : List DSlot), BX w1 → OwnV elSlot w1 (w.heap.size + 2) v xs → w1.grownBy w2 v.ownBlock → BX w2) := fun w1 w2 v xs h ho hg => (hBX w2).2 (ho.grown ((hBX w1).1 h) hg (by have := ((hBX w1).1 h).size; omega) (Nat.le_refl _))
  have HCN := hide (l1Name_ok k.name ((w.alloc (.cells #[.slice (some ⟨bm, om, none⟩) ks.length cm] 29)).alloc (.cells #[.string k.name, .slice b1 k.ins.length c1, .slice b2 k.outs.length c2, .slice b3 k.locs.length c3, .slice b4 k.mems.length c4, .slice b5 k.insts.length c5, .slice b6 k.body.length c6] 40)) hnl)
  have hat' : (at' : Int) < (ks.length : Int) := by omega
  have HR := HB
  clear HB hA1 hA hB1 hB2 hBX hAz
  generalize nameB k.name = nb at *
  cases nb
  · have HF := hide (and_no (unhide HR) (head_no (Or.inl rfl)))
    clear HR
    go_enter Tryz.func20, Tryz.ntmps20
    go_wp2_with fail
    refine (unhide HCN).mono ?_
    rintro e wn ⟨rfl, hbn⟩
    have hxn := unhide HX2 _ _ (unhide HX0) hbn
    have HBN := hide hxn
    obtain ⟨q0, q1, q2, q3, q4, q5, q6, q7⟩ := unhide HX4 _ hxn
    have HBB := hide (unhide HX1 _ hxn)
    clear hbn hxn
    go_wp2
    go_ret
    exact ⟨ret_bl (unhide HF).symm, unhide HBB⟩
  by_cases hq : 1 ≤ k.outs.length
  case neg =>
    have d9 : decide ((k.outs.length : Int) < 1) = true := decide_eq_true (by omega)
    have HF := hide (and_no (unhide HR) (head_no (Or.inr (Or.inl hq))))
    clear HR hq
    go_enter Tryz.func20, Tryz.ntmps20
    go_wp2_with fail
    refine (unhide HCN).mono ?_
    rintro e wn ⟨rfl, hbn⟩
    have hxn := unhide HX2 _ _ (unhide HX0) hbn
    have HBN := hide hxn
    obtain ⟨q0, q1, q2, q3, q4, q5, q6, q7⟩ := unhide HX4 _ hxn
    have HBB := hide (unhide HX1 _ hxn)
    clear hbn hxn
    go_wp2
    go_ret
    exact ⟨ret_bl (unhide HF).symm, unhide HBB⟩
  have f1 : decide ((k.outs.length : Int) < 1) = false := decide_eq_false (by omega)
  have E1 := hide hq
  clear hq
  by_cases hq : k.mems.length ≤ 1000
  case neg =>
    have d9 : decide (1000 < (k.mems.length : Int)) = true := decide_eq_true (by omega)
    have HF := hide (and_no (unhide HR) (head_no (Or.inr (Or.inr (Or.inl hq)))))
    clear HR hq
    go_enter Tryz.func20, Tryz.ntmps20
    go_wp2_with fail
    refine (unhide HCN).mono ?_
    rintro e wn ⟨rfl, hbn⟩
    have hxn := unhide HX2 _ _ (unhide HX0) hbn
    have HBN := hide hxn
    obtain ⟨q0, q1, q2, q3, q4, q5, q6, q7⟩ := unhide HX4 _ hxn
    have HBB := hide (unhide HX1 _ hxn)
    clear hbn hxn
    go_wp2
    go_ret
    exact ⟨ret_bl (unhide HF).symm, unhide HBB⟩
  have f2 : decide (1000 < (k.mems.length : Int)) = false := decide_eq_false (by omega)
  have E2 := hide hq
  clear hq
  by_cases hq : k.insts.length ≤ 1000
  case neg =>
    have d9 : decide (1000 < (k.insts.length : Int)) = true := decide_eq_true (by omega)
    have HF := hide (and_no (unhide HR) (head_no (Or.inr (Or.inr (Or.inr (Or.inl hq))))))
    clear HR hq
    go_enter Tryz.func20, Tryz.ntmps20
    go_wp2_with fail
    refine (unhide HCN).mono ?_
    rintro e wn ⟨rfl, hbn⟩
    have hxn := unhide HX2 _ _ (unhide HX0) hbn
    have HBN := hide hxn
    obtain ⟨q0, q1, q2, q3, q4, q5, q6, q7⟩ := unhide HX4 _ hxn
    have HBB := hide (unhide HX1 _ hxn)
    clear hbn hxn
    go_wp2
    go_ret
    exact ⟨ret_bl (unhide HF).symm, unhide HBB⟩
  have f3 : decide (1000 < (k.insts.length : Int)) = false := decide_eq_false (by omega)
  have E3 := hide hq
  clear hq
  by_cases hq : k.body.length ≤ 30000
  case neg =>
    have d9 : decide (30000 < (k.body.length : Int)) = true := decide_eq_true (by omega)
    have HF := hide (and_no (unhide HR) (head_no (Or.inr (Or.inr (Or.inr (Or.inr hq))))))
    clear HR hq
    go_enter Tryz.func20, Tryz.ntmps20
    go_wp2_with fail
    refine (unhide HCN).mono ?_
    rintro e wn ⟨rfl, hbn⟩
    have hxn := unhide HX2 _ _ (unhide HX0) hbn
    have HBN := hide hxn
    obtain ⟨q0, q1, q2, q3, q4, q5, q6, q7⟩ := unhide HX4 _ hxn
    have HBB := hide (unhide HX1 _ hxn)
    clear hbn hxn
    go_wp2
    go_ret
    exact ⟨ret_bl (unhide HF).symm, unhide HBB⟩
  have f4 : decide (30000 < (k.body.length : Int)) = false := decide_eq_false (by omega)
  have E4 := hide hq
  have HR1 := hide (and_yes (unhide HR) (by rw [decide_eq_true (unhide E1), decide_eq_true (unhide E2), decide_eq_true (unhide E3), decide_eq_true hq]; rfl))
  clear HR hq
  go_enter Tryz.func20, Tryz.ntmps20
  go_wp2_with fail
  refine (unhide HCN).mono ?_
  rintro e wn ⟨rfl, hbn⟩
  have hxn := unhide HX2 _ _ (unhide HX0) hbn
  have HBN := hide hxn
  obtain ⟨q0, q1, q2, q3, q4, q5, q6, q7⟩ := unhide HX4 _ hxn
  have HBB := hide (unhide HX1 _ hxn)
  clear hbn hxn
  go_wp2
  go_loopg [6] at' (fun g iv wr => ∃ (i : Nat), i ≤ at' ∧ g = at' - i ∧ iv = .int .i64 i ∧ (∀ j, j < i → (match ks[j]? with | some y => y.name.toList == k.name.toList | none => false) = false) ∧ BX wr)
  case atStart => exact ⟨0, Nat.zero_le _, by omega, rfl, fun j hj => absurd hj (Nat.not_lt_zero _), unhide HBN⟩
  case round =>
    obtain ⟨i, hi, hg, rfl, hno, hbx⟩ := hrel
    rename World => wr
    have HG := hide hg
    have HNO := hide hno
    have HBX := hide hbx
    obtain ⟨z0, z1, z2, z3, z4, z5, z6, z7⟩ := unhide HX4 _ hbx
    have HQn : Hid (∀ n, BX (wr.drewN n)) := fun n => unhide HX2 _ _ (unhide HBX) ⟨rfl, rfl, rfl, Nat.le_refl _, fun _ _ => rfl⟩
    clear hg hno
    by_cases hlt : i < at'
    · have hlk : i < ks.length := by omega
      obtain ⟨hb9, x0⟩ := unhide HNM i hlk
      rw [← (unhide HX1 _ hbx).cell (p := ⟨bm, _, none⟩) hb9] at x0
      have HN : Hid ((ks[i].name.toList == k.name.toList) = true → R = false) := fun h => and_no (unhide HR1) (by rw [List.all_eq_false]; exact ⟨i, List.mem_range.2 hlt, by rw [List.getElem?_eq_getElem hlk]; simp only [h]; simp⟩)
      have HY : Hid ((ks[i].name.toList == k.name.toList) = false → ∀ j, j < i + 1 → (match ks[j]? with | some y => y.name.toList == k.name.toList | none => false) = false) := fun h j hji => by
        by_cases e : j = i
        · subst e; rw [List.getElem?_eq_getElem hlk]; exact h
        · exact unhide HNO j (by omega)
      have hlt' : (i : Int) < (at' : Int) := by omega
      have hlk' : (i : Int) < (ks.length : Int) := by omega
      generalize ks[i].name = yn at *
      clear hlk hbx
      cases hq : (yn.toList == k.name.toList)
      · have HY2 := hide (unhide HY hq)
        clear HN HY
        go_wp2_with fail
        go_quiet ((fail))
        go_wp2
        go_roundg (at' - (i + 1))
        case measure => have := unhide HG; omega
        case rel => exact ⟨i + 1, by omega, rfl, by go_num, unhide HY2, unhide HQn _⟩
      · have HF := hide (unhide HN hq)
        clear HN HY
        go_wp2_with fail
        go_quiet ((fail))
        go_wp2
        go_ret
        exact ⟨ret_bl (unhide HF).symm, unhide HX1 _ (unhide HQn _)⟩
    · have hn' : decide ((i : Int) < (at' : Int)) = false := decide_eq_false (by omega)
      have HR2 := hide (and_yes (unhide HR1) (by rw [List.all_eq_true]; exact fun j hj => by rw [unhide HNO j (by have := List.mem_range.1 hj; omega)]; rfl))
      have HV0 := hide (l3Vars_ok k _ _ _ (.slice b4 k.mems.length c4) (.slice b5 k.insts.length c5) (.slice b6 k.body.length c6) wr ((unhide HCI).stays (unhide HX1 _ hbx)).ins ((unhide HCI).stays (unhide HX1 _ hbx)).outs ((unhide HCI).stays (unhide HX1 _ hbx)).locs (unhide HCI).sum)
      clear HR1 HNO HG hbx HQn
      go_wp2_with fail
      refine (unhide HV0).mono ?_
      rintro e w5 ⟨vv, rfl, hVS, hb5⟩
      have hx5 := unhide HX2 _ _ (unhide HBX) hb5
      obtain ⟨va, vc, rfl⟩ := hVS.shape
      have lv := hVS.lenM
      obtain ⟨BV, hBV⟩ : ∃ BV : World → Prop, ∀ w', BV w' ↔ Below w5.heap.size w5 w' := ⟨_, fun _ => Iff.rfl⟩
      have HV1 : Hid (∀ w', BV w' → BX w') := fun w' h => unhide HX2 _ _ hx5 ((hBV _).1 h)
      have HV2 : Hid (∀ w1 w2, BV w1 → Below w1.heap.size w1 w2 → BV w2) := fun w1 w2 h h2 => (hBV _).2 (((hBV _).1 h).trans (h2.mono ((hBV _).1 h).size))
      have HVP := hide (fun x w' (h : BV w') => l3Place_ok (varsOf k) _ x w' (hVS.stays RStr_kept ((hBV _).1 h)))
      have HVX : Hid (∀ i (hi : i < (varsOf k).length), ∃ b o, va = some ⟨b, o, none⟩ ∧ Len (varsOf k)[i].size ∧ ∀ w', BV w' → w'.cell? ⟨b, o + i, none⟩ = some (.string (varsOf k)[i])) := fun i hi => by
        obtain ⟨_, _, hv9, _, _, hx9⟩ := hVS
        simp only [Value.slice.injEq] at hv9
        obtain ⟨rfl, _, rfl⟩ := hv9
        obtain ⟨b, o, cs, rfl, _, hb, _, hc, ⟨rfl, hlen⟩⟩ := hx9 i hi
        refine ⟨b, o, rfl, hlen, fun w' h' => ?_⟩
        rw [((hBV _).1 h').cell (p := ⟨b, _, none⟩) hb]
        have h0 := hc 0 (by simp)
        rw [Nat.mul_one, Nat.add_zero] at h0
        exact h0
      have HV5 : Hid (BV w5) := (hBV _).2 (Below.refl _ _)
      have HW5 := hide (unhide HX1 _ hx5)
      clear hb5 hx5 hVS hBV HV0
      generalize varsOf k = vars at *
      by_cases hvl : vars.length ≤ 1000
      case neg =>
        have d9 : decide (1000 < (vars.length : Int)) = true := decide_eq_true (by omega)
        have HF := hide (and_no (unhide HR2) (decide_eq_false hvl))
        clear HR2 hvl
        go_wp2
        go_ret
        exact ⟨ret_bl (unhide HF).symm, unhide HW5⟩
      have d9 : decide (1000 < (vars.length : Int)) = false := decide_eq_false (by omega)
      have HR3 := hide (and_yes (unhide HR2) (decide_eq_true hvl))
      clear HR2 hvl z0 z1 z2 z3 z4 z5 z6 z7
      go_wp2
      go_loopg [77] vars.length (fun g iv wr => ∃ (i : Nat), i ≤ vars.length ∧ g = vars.length - i ∧ iv = .int .i64 i ∧ (∀ j, j < i → varBad vars j = false) ∧ BV wr)
      case atStart => exact ⟨0, Nat.zero_le _, by omega, rfl, fun j hj => absurd hj (Nat.not_lt_zero _), unhide HV5⟩
      case round =>
        obtain ⟨i, hi, hg, rfl, hno, hbx⟩ := hrel
        rename World => wq
        have HG := hide hg
        have HNO := hide hno
        have HBQ := hide hbx
        obtain ⟨z0, z1, z2, z3, z4, z5, z6, z7⟩ := unhide HX4 _ (unhide HV1 _ hbx)
        clear hg hno hbx
        by_cases hlt : i < vars.length
        · obtain ⟨b, o, rfl, hlen, hcx⟩ := unhide HVX i hlt
          have x0 := hcx _ (unhide HBQ)
          have HOB := hide (varBad_at vars i hlt)
          have HN : Hid (varBad vars i = true → R = false) := fun h => and_no (unhide HR3) (range_no i hlt h)
          have HY : Hid (varBad vars i = false → ∀ j, j < i + 1 → varBad vars j = false) := fun h j hji => by
            by_cases e : j = i
            · subst e; exact h
            · exact unhide HNO j (by omega)
          have HC1 := hide (l1Name_ok vars[i] wq hlen)
          have HC2 := hide (fun w' hb => unhide HVP vars[i] w' hb)
          have hlt' : (i : Int) < (vars.length : Int) := by omega
          have hpb := place_bd vars vars[i]
          clear hcx hlen
          generalize placeI vars vars[i] = pl at *
          generalize varBad vars i = ob at *
          generalize nameB vars[i] = nb at *
          generalize vars[i] = x at *
          cases nb
          · have HF := hide (unhide HN ((unhide HOB).trans rfl))
            clear HN HY HOB HC2
            go_wp2_with fail
            refine (unhide HC1).mono ?_
            rintro e w6 ⟨rfl, hb6⟩
            have HB := hide (unhide HX1 _ (unhide HV1 _ (unhide HV2 _ _ (unhide HBQ) hb6)))
            clear hb6
            go_wp2
            go_ret
            exact ⟨ret_bl (unhide HF).symm, unhide HB⟩
          by_cases hp : pl < (i : Int)
          · have f9 : decide (pl < (i : Int)) = true := decide_eq_true hp
            have HF := hide (unhide HN ((unhide HOB).trans (by rw [f9]; rfl)))
            clear HN HY HOB
            go_wp2_with fail
            refine (unhide HC1).mono ?_
            rintro e w6 ⟨rfl, hb6⟩
            have hx6 := unhide HV2 _ _ (unhide HBQ) hb6
            have HC3 := hide (unhide HC2 _ hx6)
            have HB := hide (unhide HX1 _ (unhide HV1 _ hx6))
            clear hb6 hx6
            go_wp2_with fail
            refine (unhide HC3).mono ?_
            rintro e w7 ⟨rfl, h9⟩
            obtain rfl := h9.symm
            clear h9
            go_wp2
            go_ret
            exact ⟨ret_bl (unhide HF).symm, unhide HB⟩
          · have f9 : decide (pl < (i : Int)) = false := decide_eq_false hp
            have HY2 := hide (unhide HY ((unhide HOB).trans (by rw [f9]; rfl)))
            clear HN HY HOB
            go_wp2_with fail
            refine (unhide HC1).mono ?_
            rintro e w6 ⟨rfl, hb6⟩
            have hx6 := unhide HV2 _ _ (unhide HBQ) hb6
            have HC3 := hide (unhide HC2 _ hx6)
            have HB := hide hx6
            clear hb6 hx6
            go_wp2_with fail
            refine (unhide HC3).mono ?_
            rintro e w7 ⟨rfl, h9⟩
            obtain rfl := h9.symm
            clear h9
            go_wp2
            go_roundg (vars.length - (i + 1))
            case measure => have := unhide HG; omega
            case rel => exact ⟨i + 1, by omega, rfl, by go_num, unhide HY2, unhide HB⟩
        · have hn9 : decide ((i : Int) < (vars.length : Int)) = false := decide_eq_false (by omega)
          have HR4 := hide (and_yes (unhide HR3) (by rw [List.all_eq_true]; exact fun j hj => by rw [unhide HNO j (by have := List.mem_range.1 hj; omega)]; rfl))
          have HBW := hide (unhide HV1 _ (unhide HBQ))
          clear HR3 HNO HG HVP HVX HV1 HV2 HV5
          have hxA : BX (wq.alloc (.cells #[] 42)).drew := unhide HX2 _ _ (unhide HBW) ((Below.refl _ _).alloc (Nat.le_refl _) _).drew
          have HXA := hide hxA
          have hz9 := unhide HX5 _ (unhide HBW)
          have HO1 : Hid (OwnV elSlot (wq.alloc (.cells #[] 42)).drew (w.heap.size + 2) (.slice (some ⟨wq.heap.size, 0, none⟩) 0 0) []) := (OwnV.start wq (w.heap.size + 2) hz9).below (Below.refl _ _).drew
          have HIN := hide (fun w' (h : BX w') => ((unhide HCI).stays (unhide HX1 _ h)).ins)
          have HOU := hide (fun w' (h : BX w') => ((unhide HCI).stays (unhide HX1 _ h)).outs)
          have hsm := (unhide HCI).sum
          have hzA : w.heap.size + 2 ≤ (wq.alloc (.cells #[] 42)).drew.heap.size := unhide HX5 _ hxA
          clear hxA
          go_wp2_with fail
          go_region_held3 (fun w' => w'.cell? ⟨w.heap.size + 1, 1, none⟩ = some (.slice b1 k.ins.length c1) ∧ w'.cell? ⟨w.heap.size + 1, 2, none⟩ = some (.slice b2 k.outs.length c2)) (go_keep) (first | (refine step_append_allF elSlot RSlot_f _ rfl _ _ rfl (w.heap.size + 2) wq.heap.size 0 [] rfl (unhide HO1) _ rfl k.ins (unhide HIN _ (unhide HXA)) (by simp [elSlot]; omega) hzA ?_; intro g1 cap1 w7 ho1 hg1; have HBX7 := hide (unhide HX3 _ _ _ _ (unhide HXA) (unhide HO1) hg1); rw [List.nil_append, List.length_nil, Nat.zero_add] at ho1; have HO7 := hide ho1; obtain ⟨_, a1, a2, _⟩ := unhide HX4 _ (unhide HBX7); clear ho1 hg1 HO1; have hz7 := unhide HX5 _ (unhide HBX7); simp only [List.length_nil, Nat.zero_add]) | (refine step_append_allF elSlot RSlot_f _ rfl _ _ rfl (w.heap.size + 2) g1 cap1 k.ins rfl (unhide HO7) _ rfl k.outs (unhide HOU _ (unhide HBX7)) (by simp [elSlot]; omega) hz7 ?_; intro g2 cap2 w8 ho2 hg2; have HBX8 := hide (unhide HX3 _ _ _ _ (unhide HBX7) (unhide HO7) hg2); have HO8 := hide ho2; obtain ⟨_, a3, a4, _⟩ := unhide HX4 _ (unhide HBX8); clear ho2 hg2 HO7))
          clear HIN HOU HXA a1 a2 a3 a4 hz7 hzA z0 z1 z2 z3 z4 z5 z6 z7 HBX7
          have HSL := hide ((unhide HO8).at (R := fun _ _ cs (x : DSlot) => cs = elSlot.f x) (fun x _ => rfl) (by rw [List.length_append]; simp [elSlot]; omega))
          have HSN : Hid ((k.ins ++ k.outs).length = k.ins.length + k.outs.length) := List.length_append
          obtain ⟨BT, hBT⟩ : ∃ BT : World → Prop, ∀ w', BT w' ↔ Below w8.heap.size w8 w' := ⟨_, fun _ => Iff.rfl⟩
          have HT1 : Hid (∀ w', BT w' → BX w') := fun w' h => unhide HX2 _ _ (unhide HBX8) ((hBT _).1 h)
          have HT2 : Hid (∀ w1 w2, BT w1 → Below w1.heap.size w1 w2 → BT w2) := fun w1 w2 h h2 => (hBT _).2 (((hBT _).1 h).trans (h2.mono ((hBT _).1 h).size))
          have HT0 : Hid (BT w8) := (hBT _).2 (Below.refl _ _)
          have HTX : Hid (∀ i (hi : i < (k.ins ++ k.outs).length) w', BT w' → w'.cell? ⟨g2, i * 2, none⟩ = some (.string (k.ins ++ k.outs)[i].name) ∧ w'.cell? ⟨g2, i * 2 + 1, none⟩ = some (.int .i64 (k.ins ++ k.outs)[i].type)) := fun i hi w' h' => by
            obtain ⟨_, _, hv9, _, _, hx9⟩ := unhide HSL
            simp only [Value.slice.injEq] at hv9
            obtain ⟨hv9, _⟩ := hv9
            obtain ⟨b, o, cs, hbo, _, hb, _, hc, rfl⟩ := hx9 i hi
            rw [← hv9] at hbo
            simp only [Option.some.injEq, Addr.mk.injEq] at hbo
            obtain ⟨rfl, rfl, _⟩ := hbo
            have h0 := hc 0 (by simp [elSlot])
            have h1 := hc 1 (by simp [elSlot])
            have e0 : 0 + i * elSlot.sz + 0 = i * 2 := by show 0 + i * 2 + 0 = i * 2; omega
            have e1 : 0 + i * elSlot.sz + 1 = i * 2 + 1 := by show 0 + i * 2 + 1 = i * 2 + 1; omega
            rw [e0] at h0
            rw [e1] at h1
            exact ⟨(((hBT _).1 h').cell (p := ⟨g2, _, none⟩) hb).trans h0, (((hBT _).1 h').cell (p := ⟨g2, _, none⟩) hb).trans h1⟩
          clear HSL HO8 hBT HBX8 HBW HBQ hz9
          generalize k.ins ++ k.outs = sl at *
          go_wp2
          go_loopg [101] sl.length (fun g iv wr => ∃ (i : Nat), i ≤ sl.length ∧ g = sl.length - i ∧ iv = .int .i64 i ∧ (∀ j (hj : j < sl.length), j < i → decide (1 ≤ sl[j].type ∧ sl[j].type ≤ 2) = true) ∧ BT wr)
          case atStart => exact ⟨0, Nat.zero_le _, by omega, rfl, fun j _ hj => absurd hj (Nat.not_lt_zero _), unhide HT0⟩
          case round =>
            obtain ⟨i, hi, hg, rfl, hno, hbx⟩ := hrel
            rename World => wt
            have HG := hide hg
            have HNO := hide hno
            have HBT := hide hbx
            obtain ⟨z0, z1, z2, z3, z4, z5, z6, z7⟩ := unhide HX4 _ (unhide HT1 _ hbx)
            clear hg hno hbx
            by_cases hlt : i < sl.length
            · obtain ⟨x0, x1⟩ := unhide HTX i hlt _ (unhide HBT)
              have HN : Hid (¬ (1 ≤ sl[i].type ∧ sl[i].type ≤ 2) → R = false) := fun h => and_no (unhide HR4) (all_no i hlt (decide_eq_false h))
              have HY : Hid (1 ≤ sl[i].type ∧ sl[i].type ≤ 2 → ∀ j (hj : j < sl.length), j < i + 1 → decide (1 ≤ sl[j].type ∧ sl[j].type ≤ 2) = true) := fun h j hj hji => by
                by_cases e : j = i
                · subst e; exact decide_eq_true h
                · exact unhide HNO j hj (by omega)
              have hl1 : (i : Int) < (k.ins.length : Int) + (k.outs.length : Int) := by have := unhide HSN; omega
              have hl2 : (i : Int) < ((k.ins.length + k.outs.length : Nat) : Int) := by have := unhide HSN; omega
              have hl3 : i < k.ins.length + k.outs.length := by have := unhide HSN; omega
              have HBA := hide (unhide HT2 _ _ (unhide HBT) ((Below.refl _ _).alloc (Nat.le_refl _) (.cells #[.string sl[i].name, .int .i64 sl[i].type] 42)))
              generalize sl[i].type = ty at *
              generalize sl[i].name = sn at *
              by_cases h1 : ty < 1
              · have f9 : decide (ty < 1) = true := decide_eq_true h1
                have HF := hide (unhide HN (by omega))
                clear HN HY
                go_wp2
                go_ret
                exact ⟨ret_bl (unhide HF).symm, unhide HX1 _ (unhide HT1 _ (unhide HBA))⟩
              have f9 : decide (ty < 1) = false := decide_eq_false h1
              by_cases h2 : 2 < ty
              · have f8 : decide (2 < ty) = true := decide_eq_true h2
                have HF := hide (unhide HN (by omega))
                clear HN HY
                go_wp2
                go_ret
                exact ⟨ret_bl (unhide HF).symm, unhide HX1 _ (unhide HT1 _ (unhide HBA))⟩
              have f8 : decide (2 < ty) = false := decide_eq_false h2
              have HY2 := hide (unhide HY (by omega))
              clear HN HY
              go_wp2
              go_roundg (sl.length - (i + 1))
              case measure => have := unhide HG; omega
              case rel => exact ⟨i + 1, by omega, rfl, by go_num, unhide HY2, unhide HBA⟩
            · have hn8 : decide ((i : Int) < (k.ins.length : Int) + (k.outs.length : Int)) = false := decide_eq_false (by have := unhide HSN; omega)
              have hn7 : ¬ (i < k.ins.length + k.outs.length) := by have := unhide HSN; omega
              have HR5 := hide (and_yes (unhide HR4) (all_yes (fun j hj => unhide HNO j hj (by omega))))
              have HB5 := hide (unhide HT1 _ (unhide HBT))
              clear HR4 HNO HG HTX HT1 HT2 HT0 HBT
              have HMX : Hid (∀ i (hi : i < k.mems.length), ∃ b o, b4 = some ⟨b, o, none⟩ ∧ ∀ w', BX w' → w'.cell? ⟨b, o + i, none⟩ = some (.int .i64 k.mems[i])) := fun i hi => by
                obtain ⟨_, _, hv9, _, _, hx9⟩ := (unhide HCI).mems
                simp only [Value.slice.injEq] at hv9
                obtain ⟨rfl, _, rfl⟩ := hv9
                obtain ⟨b, o, cs, rfl, _, hb, _, hc, ⟨rfl, _⟩⟩ := hx9 i hi
                refine ⟨b, o, rfl, fun w' h' => ?_⟩
                rw [(unhide HX1 _ h').cell (p := ⟨b, _, none⟩) hb]
                have h0 := hc 0 (by simp)
                rw [Nat.mul_one, Nat.add_zero] at h0
                exact h0
              have HNX : Hid (∀ i (hi : i < k.insts.length), ∃ b o, b5 = some ⟨b, o, none⟩ ∧ ∀ w', BX w' → w'.cell? ⟨b, o + i, none⟩ = some (.int .i64 k.insts[i])) := fun i hi => by
                obtain ⟨_, _, hv9, _, _, hx9⟩ := (unhide HCI).insts
                simp only [Value.slice.injEq] at hv9
                obtain ⟨rfl, _, rfl⟩ := hv9
                obtain ⟨b, o, cs, rfl, _, hb, _, hc, ⟨rfl, _⟩⟩ := hx9 i hi
                refine ⟨b, o, rfl, fun w' h' => ?_⟩
                rw [(unhide HX1 _ h').cell (p := ⟨b, _, none⟩) hb]
                have h0 := hc 0 (by simp)
                rw [Nat.mul_one, Nat.add_zero] at h0
                exact h0
              go_wp2
              go_loopg [117] k.mems.length (fun g iv wr => ∃ (i : Nat), i ≤ k.mems.length ∧ g = k.mems.length - i ∧ iv = .int .i64 i ∧ (∀ j (hj : j < k.mems.length), j < i → memB k.mems[j] = true) ∧ BX wr)
              case atStart => exact ⟨0, Nat.zero_le _, by omega, rfl, fun j _ hj => absurd hj (Nat.not_lt_zero _), unhide HB5⟩
              case round =>
                obtain ⟨i, hi, hg, rfl, hno, hbx⟩ := hrel
                rename World => wt
                have HG := hide hg
                have HNO := hide hno
                have HBT := hide hbx
                clear hg hno hbx z0 z1 z2 z3 z4 z5 z6 z7
                obtain ⟨z0, z1, z2, z3, z4, z5, z6, z7⟩ := unhide HX4 _ (unhide HBT)
                by_cases hlt : i < k.mems.length
                · obtain ⟨b, o, hbo, hcx⟩ := unhide HMX i hlt
                  have x0 := hcx _ (unhide HBT)
                  have HN : Hid (memB k.mems[i] = false → R = false) := fun h => and_no (unhide HR5) (all_no i hlt h)
                  have HY : Hid (memB k.mems[i] = true → ∀ j (hj : j < k.mems.length), j < i + 1 → memB k.mems[j] = true) := fun h j hj hji => by
                    by_cases e : j = i
                    · subst e; exact h
                    · exact unhide HNO j hj (by omega)
                  have HC1 := hide (l2Wrap_ok k.mems[i] wt)
                  have HM : Hid (memB k.mems[i] = (k.mems[i] == IntKind.i32.wrap k.mems[i])) := rfl
                  have hlt' : (i : Int) < (k.mems.length : Int) := by omega
                  clear hcx
                  generalize memB k.mems[i] = mb at *
                  generalize k.mems[i] = mv at *
                  generalize IntKind.i32.wrap mv = wv at *
                  subst hbo
                  have HB9 := hide (unhide HX1 _ (unhide HBT))
                  by_cases hq : mv = wv
                  · have f9 : (mv != wv) = false := by simp [hq]
                    have HY2 := hide (unhide HY ((unhide HM).trans (by simp [hq])))
                    clear HN HY HM hq
                    go_wp2_with fail
                    refine (unhide HC1).mono ?_
                    rintro e w9 ⟨rfl, h9⟩
                    obtain rfl := h9.symm
                    clear h9
                    go_wp2
                    go_roundg (k.mems.length - (i + 1))
                    case measure => have := unhide HG; omega
                    case rel => exact ⟨i + 1, by omega, rfl, by go_num, unhide HY2, unhide HBT⟩
                  · have f9 : (mv != wv) = true := by simp [hq]
                    have HF := hide (unhide HN ((unhide HM).trans (by simp [hq])))
                    clear HN HY HM hq
                    go_wp2_with fail
                    refine (unhide HC1).mono ?_
                    rintro e w9 ⟨rfl, h9⟩
                    obtain rfl := h9.symm
                    clear h9
                    go_wp2
                    go_ret
                    exact ⟨ret_bl (unhide HF).symm, unhide HB9⟩
                · have hn8 : decide ((i : Int) < (k.mems.length : Int)) = false := decide_eq_false (by omega)
                  have HR6 := hide (and_yes (unhide HR5) (all_yes (fun j hj => unhide HNO j hj (by omega))))
                  clear HR5 HNO HG HMX HB5
                  go_wp2
                  go_loopg [129] k.insts.length (fun g iv wr => ∃ (i : Nat), i ≤ k.insts.length ∧ g = k.insts.length - i ∧ iv = .int .i64 i ∧ (∀ j (hj : j < k.insts.length), j < i → decide (0 ≤ k.insts[j] ∧ k.insts[j] < (at' : Int)) = true) ∧ wr = wt)
                  case atStart => exact ⟨0, Nat.zero_le _, by omega, rfl, fun j _ hj => absurd hj (Nat.not_lt_zero _), rfl⟩
                  case round =>
                    obtain ⟨i, hi, hg, rfl, hno, hw⟩ := hrel
                    obtain rfl := hw.symm
                    clear hw
                    have HG := hide hg
                    have HNO := hide hno
                    clear hg hno
                    have HB9 := hide (unhide HX1 _ (unhide HBT))
                    by_cases hlt : i < k.insts.length
                    · obtain ⟨b, o, hbo, hcx⟩ := unhide HNX i hlt
                      have x0 := hcx _ (unhide HBT)
                      have HN : Hid (¬ (0 ≤ k.insts[i] ∧ k.insts[i] < (at' : Int)) → R = false) := fun h => and_no (unhide HR6) (all_no i hlt (decide_eq_false h))
                      have HY : Hid (0 ≤ k.insts[i] ∧ k.insts[i] < (at' : Int) → ∀ j (hj : j < k.insts.length), j < i + 1 → decide (0 ≤ k.insts[j] ∧ k.insts[j] < (at' : Int)) = true) := fun h j hj hji => by
                        by_cases e : j = i
                        · subst e; exact decide_eq_true h
                        · exact unhide HNO j hj (by omega)
                      have hlt' : (i : Int) < (k.insts.length : Int) := by omega
                      clear hcx
                      generalize k.insts[i] = gv at *
                      subst hbo
                      by_cases h1 : gv < 0
                      · have f9 : decide (gv < 0) = true := decide_eq_true h1
                        have HF := hide (unhide HN (by omega))
                        clear HN HY
                        go_wp2
                        go_ret
                        exact ⟨ret_bl (unhide HF).symm, unhide HB9⟩
                      have f9 : decide (gv < 0) = false := decide_eq_false h1
                      by_cases h2 : (at' : Int) ≤ gv
                      · have f8 : decide ((at' : Int) ≤ gv) = true := decide_eq_true h2
                        have HF := hide (unhide HN (by omega))
                        clear HN HY
                        go_wp2
                        go_ret
                        exact ⟨ret_bl (unhide HF).symm, unhide HB9⟩
                      have f8 : decide ((at' : Int) ≤ gv) = false := decide_eq_false h2
                      have HY2 := hide (unhide HY (by omega))
                      clear HN HY
                      go_wp2
                      go_roundg (k.insts.length - (i + 1))
                      case measure => have := unhide HG; omega
                      case rel => exact ⟨i + 1, by omega, rfl, by go_num, unhide HY2, rfl⟩
                    · have hn6 : decide ((i : Int) < (k.insts.length : Int)) = false := decide_eq_false (by omega)
                      have HR7 := hide (and_yes (unhide HR6) (all_yes (fun j hj => unhide HNO j hj (by omega))))
                      have HIO : Hid (∀ j (hj : j < k.insts.length), 0 ≤ k.insts[j] ∧ k.insts[j] < (ks.length : Int)) := fun j hj => by
                        have := of_decide_eq_true (unhide HNO j hj (by omega))
                        omega
                      clear HR6 HNO HG HNX
                      have HSX : Hid (∀ i (hi : i < k.body.length), ∃ b o o1 n1 p1 o2 n2 p2 o3 n3 p3, b6 = some ⟨b, o, none⟩ ∧ ∀ w', BX w' → (w'.cell? ⟨b, o + i * 6, none⟩ = some (.int .i64 k.body[i].kind) ∧ w'.cell? ⟨b, o + i * 6 + 1, none⟩ = some (.string k.body[i].name) ∧ w'.cell? ⟨b, o + i * 6 + 2, none⟩ = some (.int .i64 k.body[i].at_) ∧ w'.cell? ⟨b, o + i * 6 + 3, none⟩ = some (.slice o1 n1 p1) ∧ w'.cell? ⟨b, o + i * 6 + 4, none⟩ = some (.slice o2 n2 p2) ∧ w'.cell? ⟨b, o + i * 6 + 5, none⟩ = some (.slice o3 n3 p3)) ∧ SlAt 1 16 RStr 0 w' (.slice o1 n1 p1) k.body[i].outs ∧ SlAt 3 32 RItem 0 w' (.slice o2 n2 p2) k.body[i].code ∧ SlAt 1 24 RItems 0 w' (.slice o3 n3 p3) k.body[i].args) := fun i hi => by
                        obtain ⟨_, _, hv9, _, _, hx9⟩ := (unhide HCI).body
                        simp only [Value.slice.injEq] at hv9
                        obtain ⟨rfl, _, rfl⟩ := hv9
                        obtain ⟨b, o, cs, rfl, _, hb, _, hc, ⟨u1, u2, u3, rfl, _, _, _, s1, s2, s3⟩⟩ := hx9 i hi
                        obtain ⟨o1, p1, rfl⟩ := s1.shape
                        obtain ⟨o2, p2, rfl⟩ := s2.shape
                        obtain ⟨o3, p3, rfl⟩ := s3.shape
                        refine ⟨b, o, o1, k.body[i].outs.length, p1, o2, k.body[i].code.length, p2, o3, k.body[i].args.length, p3, rfl, fun w' h' => ?_⟩
                        have hB := unhide HX1 _ h'
                        have hc' : ∀ t (ht : t < 6), w'.cell? ⟨b, o + i * 6 + t, none⟩ = some (([.int .i64 k.body[i].kind, .string k.body[i].name, .int .i64 k.body[i].at_, .slice o1 k.body[i].outs.length p1, .slice o2 k.body[i].code.length p2, .slice o3 k.body[i].args.length p3] : List Value)[t]) := fun t ht => by
                          rw [hB.cell (p := ⟨b, _, none⟩) hb]
                          exact hc t ht
                        exact ⟨⟨hc' 0 (by omega), hc' 1 (by omega), hc' 2 (by omega), hc' 3 (by omega), hc' 4 (by omega), hc' 5 (by omega)⟩, s1.stays RStr_kept hB, s2.stays RItem_kept hB, s3.stays RItems_kept hB⟩
                      go_wp2
                      go_loopg [144] k.body.length (fun g iv wr => ∃ (i : Nat), i ≤ k.body.length ∧ g = k.body.length - i ∧ iv = .int .i64 i ∧ (∀ j (hj : j < k.body.length), j < i → stmB ks k k.body[j] = true) ∧ BX wr)
                      case atStart => exact ⟨0, Nat.zero_le _, by omega, rfl, fun j _ hj => absurd hj (Nat.not_lt_zero _), unhide HBT⟩
                      case round =>
                        obtain ⟨i, hi, hg, rfl, hno, hbx⟩ := hrel
                        rename World => wu
                        have HG := hide hg
                        have HNO := hide hno
                        have HBU := hide hbx
                        clear hg hno hbx z0 z1 z2 z3 z4 z5 z6 z7
                        obtain ⟨z0, z1, z2, z3, z4, z5, z6, z7⟩ := unhide HX4 _ (unhide HBU)
                        by_cases hlt : i < k.body.length
                        · obtain ⟨b, o, o1, n1, p1, o2, n2, p2, o3, n3, p3, hbo, hcx⟩ := unhide HSX i hlt
                          obtain ⟨⟨x0, x1, x2, x3, x4, x5⟩, _⟩ := hcx _ (unhide HBU)
                          have HN : Hid (stmB ks k k.body[i] = false → R = false) := fun h => and_no (unhide HR7) (all_no i hlt h)
                          have HY : Hid (stmB ks k k.body[i] = true → ∀ j (hj : j < k.body.length), j < i + 1 → stmB ks k k.body[j] = true) := fun h j hj hji => by
                            by_cases e : j = i
                            · subst e; exact h
                            · exact unhide HNO j hj (by omega)
                          have hbA := unhide HX2 _ _ (unhide HBU) ((Below.refl _ wu).alloc (Nat.le_refl _) (.cells #[.int .i64 k.body[i].kind, .string k.body[i].name, .int .i64 k.body[i].at_, .slice o1 n1 p1, .slice o2 n2 p2, .slice o3 n3 p3] 47))
                          obtain ⟨_, s1, s2, s3⟩ := hcx _ hbA
                          have HC1 := hide (l3StmOK_ok ks k k.body[i] _ _ _ _ _ _ _ _ _ _ _ ((unhide HMM).stays RClass_kept (unhide HX1 _ hbA)) ((unhide HCI).stays (unhide HX1 _ hbA)) s1 s2 s3 (unhide HIO))
                          have HBA := hide hbA
                          have hlt' : (i : Int) < (k.body.length : Int) := by omega
                          clear hcx s1 s2 s3 hbA
                          generalize stmB ks k k.body[i] = sb at *
                          generalize k.body[i].kind = kd at *
                          generalize k.body[i].name = sn at *
                          generalize k.body[i].at_ = sa at *
                          subst hbo
                          obtain ⟨k0, k1, k2, k3, k4, k5, k6, k7⟩ := unhide HX4 _ (unhide HBA)
                          cases sb
                          · have HF := hide (unhide HN rfl)
                            clear HN HY
                            go_wp2_with fail
                            refine (unhide HC1).mono ?_
                            rintro e w9 ⟨rfl, hb9⟩
                            have HB9 := hide (unhide HX1 _ (unhide HX2 _ _ (unhide HBA) hb9))
                            clear hb9
                            go_wp2
                            go_ret
                            exact ⟨ret_bl (unhide HF).symm, unhide HB9⟩
                          · have HY2 := hide (unhide HY rfl)
                            clear HN HY
                            go_wp2_with fail
                            refine (unhide HC1).mono ?_
                            rintro e w9 ⟨rfl, hb9⟩
                            have HB9 := hide (unhide HX2 _ _ (unhide HBA) hb9)
                            clear hb9
                            go_wp2
                            go_roundg (k.body.length - (i + 1))
                            case measure => have := unhide HG; omega
                            case rel => exact ⟨i + 1, by omega, rfl, by go_num, unhide HY2, unhide HB9⟩
                        · have hn5 : decide ((i : Int) < (k.body.length : Int)) = false := decide_eq_false (by omega)
                          have HR8 := hide (and_yes (unhide HR7) (all_yes (fun j hj => unhide HNO j hj (by omega))))
                          have HC1 := hide (l3Nested_ok (k.body.length + 1) k.body _ 0 wu ((unhide HCI).stays (unhide HX1 _ (unhide HBU))).body (Nat.lt_succ_self _) (Int.le_refl _) (by omega))
                          have HW9 := hide (unhide HX1 _ (unhide HBU))
                          clear HR7 HNO HG HIO
                          generalize hnf : nestF (k.body.length + 1) (kindsOf k.body) 0 = nf at *
                          clear hnf
                          cases nf
                          · have HF := hide (and_no (unhide HR8) rfl)
                            clear HR8
                            go_wp2_with fail
                            refine (unhide HC1).mono ?_
                            rintro e w9 ⟨rfl, h9⟩
                            obtain rfl := h9.symm
                            clear h9
                            go_wp2
                            go_ret
                            exact ⟨ret_bl (unhide HF).symm, unhide HW9⟩
                          have HR9 := hide (and_yes (unhide HR8) rfl)
                          clear HR8
                          go_wp2_with fail
                          refine (unhide HC1).mono ?_
                          rintro e w9 ⟨rfl, h9⟩
                          obtain rfl := h9.symm
                          clear h9 HC1
                          go_wp2
                          go_loopg [161] k.body.length (fun g iv wr => ∃ (i : Nat), i ≤ k.body.length ∧ g = k.body.length - i ∧ iv = .int .i64 i ∧ (∀ j, j < i → ifBad k.body j = false) ∧ BX wr)
                          case atStart => exact ⟨0, Nat.zero_le _, by omega, rfl, fun j hj => absurd hj (Nat.not_lt_zero _), unhide HBU⟩
                          case round =>
                            obtain ⟨i, hi, hg, rfl, hno, hbx⟩ := hrel
                            rename World => wv
                            have HG := hide hg
                            have HNO := hide hno
                            have HBV := hide hbx
                            clear hg hno hbx z0 z1 z2 z3 z4 z5 z6 z7
                            obtain ⟨z0, z1, z2, z3, z4, z5, z6, z7⟩ := unhide HX4 _ (unhide HBV)
                            by_cases hlt : i < k.body.length
                            case neg =>
                              have hn4 : decide ((i : Int) < (k.body.length : Int)) = false := decide_eq_false (by omega)
                              have HF : Hid (R = true) := (unhide HR9).trans (range_yes (fun j hj => unhide HNO j (by omega)))
                              have HB9 := hide (unhide HX1 _ (unhide HBV))
                              go_wp2
                              go_ret
                              exact ⟨ret_bl (unhide HF).symm, unhide HB9⟩
                            obtain ⟨b, o, o1, n1, p1, o2, n2, p2, o3, n3, p3, hbo, hcx⟩ := unhide HSX i hlt
                            obtain ⟨⟨x0, x1, x2, x3, x4, x5⟩, _⟩ := hcx _ (unhide HBV)
                            have HN : Hid (ifBad k.body i = true → R = false) := fun h => (unhide HR9).trans (range_no i hlt h)
                            have HY : Hid (ifBad k.body i = false → ∀ j, j < i + 1 → ifBad k.body j = false) := fun h j hji => by
                              by_cases e : j = i
                              · subst e; exact h
                              · exact unhide HNO j (by omega)
                            have HIB := hide (ifBad_at k.body i hlt)
                            have HPE := hide (parts_hi (kindsOf k.body) i)
                            have hkl : (kindsOf k.body).length = k.body.length := by unfold kindsOf; simp
                            rw [hkl] at HPE
                            clear hkl
                            have hlt' : (i : Int) < (k.body.length : Int) := by omega
                            clear hcx
                            generalize k.body[i].kind = kd at *
                            generalize k.body[i].name = sn at *
                            generalize k.body[i].at_ = sa at *
                            have hbA := unhide HX2 _ _ (unhide HBV) ((Below.refl _ wv).alloc (Nat.le_refl _) (.cells #[.int .i64 kd, .string sn, .int .i64 sa, .slice o1 n1 p1, .slice o2 n2 p2, .slice o3 n3 p3] 47))
                            have HC1 := hide (l3Parts_ok k.body _ i _ ((unhide HCI).stays (unhide HX1 _ hbA)).body hi)
                            have HBA := hide hbA
                            have hBS := hide (blk_box wv #[.int .i64 kd, .string sn, .int .i64 sa, .slice o1 n1 p1, .slice o2 n2 p2, .slice o3 n3 p3] 47)
                            clear hbA
                            subst hbo
                            by_cases h4 : kd = 4
                            case neg =>
                              have y4 : (kd == 4) = false := by simp [h4]
                              have HY2 := hide (unhide HY ((unhide HIB).trans (by rw [y4, Bool.false_and])))
                              clear HN HY HIB HC1 h4
                              go_wp2
                              go_roundg (k.body.length - (i + 1))
                              case measure => have := unhide HG; omega
                              case rel => exact ⟨i + 1, by omega, rfl, by go_num, unhide HY2, unhide HBA⟩
                            have y4 : (kd == 4) = true := by simp [h4]
                            rw [y4, Bool.true_and] at HIB
                            obtain ⟨BS, hBSd⟩ : ∃ BS : World → Prop, ∀ w', BS w' ↔ Below (wv.alloc (.cells #[.int .i64 kd, .string sn, .int .i64 sa, .slice o1 n1 p1, .slice o2 n2 p2, .slice o3 n3 p3] 47)).heap.size (wv.alloc (.cells #[.int .i64 kd, .string sn, .int .i64 sa, .slice o1 n1 p1, .slice o2 n2 p2, .slice o3 n3 p3] 47)) w' := ⟨_, fun _ => Iff.rfl⟩
                            have HS1 : Hid (∀ w', BS w' → BX w') := fun w' h => unhide HX2 _ _ (unhide HBA) ((hBSd _).1 h)
                            have HS2 : Hid (∀ w1 w2, BS w1 → Below w1.heap.size w1 w2 → BS w2) := fun w1 w2 h h2 => (hBSd _).2 (((hBSd _).1 h).trans (h2.mono ((hBSd _).1 h).size))
                            have HS3 : Hid (∀ w', BS w' → w'.cell? ⟨wv.heap.size, 1, none⟩ = some (.string sn)) := fun w' h => ((unhide hBS).below ((hBSd _).1 h) (unhide hBS).lt).cell (i := 1) (v := .string sn) rfl
                            have HS0 : Hid (BS (wv.alloc (.cells #[.int .i64 kd, .string sn, .int .i64 sa, .slice o1 n1 p1, .slice o2 n2 p2, .slice o3 n3 p3] 47))) := (hBSd _).2 (Below.refl _ _)
                            obtain ⟨k0, k1, k2, k3, k4, k5, k6, k7⟩ := unhide HX4 _ (unhide HBA)
                            clear h4 hBSd hBS
                            generalize partsI (kindsOf k.body) i = pp at *
                            obtain ⟨po, pe⟩ := pp
                            simp only at HIB HPE HC1
                            have hpe := unhide HPE
                            go_wp2_with fail
                            refine (unhide HC1).mono ?_
                            rintro e w9 ⟨rfl, h9⟩
                            obtain rfl := h9.symm
                            clear h9 HC1
                            go_wp2
                            go_loopg [22] (pe.toNat - i) (fun g jv wr => ∃ (j : Nat), i ≤ j ∧ j ≤ k.body.length ∧ g = pe.toNat - j ∧ jv = .int .i64 j ∧ (∀ q, i ≤ q → q < j → (match k.body[q]? with | some t => wrB t sn | none => false) = false) ∧ BS wr)
                            case atStart => exact ⟨i, Nat.le_refl _, hi, rfl, rfl, fun q h1 h2 => absurd h2 (by omega), unhide HS0⟩
                            case round =>
                              obtain ⟨j, hij, hjb, hg, rfl, hno, hbs⟩ := hrel
                              rename World => wj
                              have HGJ := hide hg
                              have HNJ := hide hno
                              have HBJ := hide hbs
                              clear hg hno hbs k0 k1 k2 k3 k4 k5 k6 k7 z0 z1 z2 z3 z4 z5 z6 z7 x0 x1 x2 x3 x4 x5
                              obtain ⟨z0, z1, z2, z3, z4, z5, z6, z7⟩ := unhide HX4 _ (unhide HS1 _ (unhide HBJ))
                              have y1 := unhide HS3 _ (unhide HBJ)
                              by_cases hjp : (j : Int) < pe
                              case neg =>
                                have f9 : decide ((j : Int) < pe) = false := decide_eq_false hjp
                                have HY2 := hide (unhide HY ((unhide HIB).trans (any_no (fun q hq => by
                                  by_cases h1 : i ≤ q
                                  · rw [decide_eq_true h1, Bool.true_and]; exact unhide HNJ q h1 (by omega)
                                  · rw [decide_eq_false h1, Bool.false_and]))))
                                have HB9 := hide (unhide HS1 _ (unhide HBJ))
                                clear HN HY HIB
                                go_wp2
                                go_roundg (k.body.length - (i + 1))
                                case measure => have := unhide HG; omega
                                case rel => exact ⟨i + 1, by omega, rfl, by go_num, unhide HY2, unhide HB9⟩
                              have f9 : decide ((j : Int) < pe) = true := decide_eq_true hjp
                              have hjl : j < k.body.length := by omega
                              obtain ⟨b', o', t1, m1, r1, t2, m2, r2, t3, m3, r3, hbo', hcx⟩ := unhide HSX j hjl
                              simp only [Option.some.injEq, Addr.mk.injEq] at hbo'
                              obtain ⟨rfl, rfl, _⟩ := hbo'
                              obtain ⟨⟨x0, x1, x2, x3, x4, x5⟩, _⟩ := hcx _ (unhide HS1 _ (unhide HBJ))
                              have HNJ2 : Hid (wrB k.body[j] sn = true → R = false) := fun h => unhide HN ((unhide HIB).trans (any_yes j (by omega) (by rw [decide_eq_true hij, Bool.true_and, List.getElem?_eq_getElem hjl]; exact h)))
                              have HYJ2 : Hid (wrB k.body[j] sn = false → ∀ q, i ≤ q → q < j + 1 → (match k.body[q]? with | some t => wrB t sn | none => false) = false) := fun h q h1 h2 => by
                                by_cases e : q = j
                                · subst e; rw [List.getElem?_eq_getElem hjl]; exact h
                                · exact unhide HNJ q h1 (by omega)
                              have hdr := unhide HS2 _ _ (unhide HBJ) (Below.refl _ wj).drew
                              have HCW0 := hide (l3Writes_ok k.body[j] sn _ _ _ wj.drew (hcx _ (unhide HS1 _ hdr)).2.1 ⟨t2, m2, r2, rfl⟩ ⟨t3, m3, r3, rfl⟩)
                              have HCX := hide (fun w' h => (hcx w' (unhide HS1 w' h)).1)
                              have hjl' : (j : Int) < (k.body.length : Int) := by omega
                              clear hcx
                              generalize wrB k.body[j] sn = wb at *
                              generalize k.body[j].kind = jk at *
                              generalize k.body[j].name = jn at *
                              generalize k.body[j].at_ = ja at *
                              have HCW : Hid (Calls Tryz.prog 43 #[.agg #[.int .i64 jk, .string jn, .int .i64 ja, .slice t1 m1 r1, .slice t2 m2 r2, .slice t3 m3 r3], .string sn] wj.drew fun e w9 => e = .returned (.bool wb) ∧ BS w9 ∧ w9.cell? ⟨w.heap.size + 1, 6, none⟩ = some (.slice (some ⟨b, o, none⟩) k.body.length c6) ∧ w9.cell? ⟨b, o + j * 6, none⟩ = some (.int .i64 jk) ∧ w9.cell? ⟨b, o + j * 6 + 1, none⟩ = some (.string jn) ∧ w9.cell? ⟨b, o + j * 6 + 2, none⟩ = some (.int .i64 ja) ∧ w9.cell? ⟨b, o + j * 6 + 3, none⟩ = some (.slice t1 m1 r1) ∧ w9.cell? ⟨b, o + j * 6 + 4, none⟩ = some (.slice t2 m2 r2) ∧ w9.cell? ⟨b, o + j * 6 + 5, none⟩ = some (.slice t3 m3 r3) ∧ w9.cell? ⟨wv.heap.size, 1, none⟩ = some (.string sn)) := by
                                refine (unhide HCW0).mono ?_
                                rintro e w9 ⟨rfl, hb9⟩
                                have h9 := unhide HS2 _ _ hdr hb9
                                obtain ⟨c0, c1', c2', c3', c4', c5'⟩ := unhide HCX w9 h9
                                obtain ⟨_, _, _, _, _, _, _, q7⟩ := unhide HX4 _ (unhide HS1 _ h9)
                                have hs9 := unhide HS3 _ h9
                                exact ⟨rfl, h9, q7, c0, c1', c2', c3', c4', c5', hs9⟩
                              clear HCW0 HCX hdr
                              generalize wv.heap.size = vb at *
                              cases wb
                              · have HY2 := hide (unhide HYJ2 rfl)
                                clear HNJ2 HYJ2 HN HY
                                go_wp2_with fail
                                go_region_held3 (fun w' => w'.cell? ⟨w.heap.size + 1, 6, none⟩ = some (.slice (some ⟨b, o, none⟩) k.body.length c6) ∧ w'.cell? ⟨b, o + j * 6, none⟩ = some (.int .i64 jk) ∧ w'.cell? ⟨b, o + j * 6 + 1, none⟩ = some (.string jn) ∧ w'.cell? ⟨b, o + j * 6 + 2, none⟩ = some (.int .i64 ja) ∧ w'.cell? ⟨b, o + j * 6 + 3, none⟩ = some (.slice t1 m1 r1) ∧ w'.cell? ⟨b, o + j * 6 + 4, none⟩ = some (.slice t2 m2 r2) ∧ w'.cell? ⟨b, o + j * 6 + 5, none⟩ = some (.slice t3 m3 r3) ∧ w'.cell? ⟨vb, 1, none⟩ = some (.string sn)) (go_keep) (first | (go_at_call 43; refine (unhide HCW).mono ?_; rintro e w9 ⟨rfl, hB9, l0, l1, l2, l3, l4, l5, l6, l7⟩))
                                have HB9 := hide hB9
                                go_wp2
                                go_roundg (pe.toNat - (j + 1))
                                case measure => have := unhide HGJ; omega
                                case rel => exact ⟨j + 1, by omega, by omega, rfl, by go_num, unhide HY2, unhide HB9⟩
                              · have HF := hide (unhide HNJ2 rfl)
                                clear HNJ2 HYJ2 HN HY
                                go_wp2_with fail
                                go_region_held3 (fun w' => w'.cell? ⟨w.heap.size + 1, 6, none⟩ = some (.slice (some ⟨b, o, none⟩) k.body.length c6) ∧ w'.cell? ⟨b, o + j * 6, none⟩ = some (.int .i64 jk) ∧ w'.cell? ⟨b, o + j * 6 + 1, none⟩ = some (.string jn) ∧ w'.cell? ⟨b, o + j * 6 + 2, none⟩ = some (.int .i64 ja) ∧ w'.cell? ⟨b, o + j * 6 + 3, none⟩ = some (.slice t1 m1 r1) ∧ w'.cell? ⟨b, o + j * 6 + 4, none⟩ = some (.slice t2 m2 r2) ∧ w'.cell? ⟨b, o + j * 6 + 5, none⟩ = some (.slice t3 m3 r3) ∧ w'.cell? ⟨vb, 1, none⟩ = some (.string sn)) (go_keep) (first | (go_at_call 43; refine (unhide HCW).mono ?_; rintro e w9 ⟨rfl, hB9, l0, l1, l2, l3, l4, l5, l6, l7⟩))
                                have HB9 := hide (unhide HX1 _ (unhide HS1 _ hB9))
                                go_wp2
                                go_ret
                                exact ⟨ret_bl (unhide HF).symm, unhide HB9⟩

end Go.Proofs.YtmglbkndjnflkaaGreatDoor
