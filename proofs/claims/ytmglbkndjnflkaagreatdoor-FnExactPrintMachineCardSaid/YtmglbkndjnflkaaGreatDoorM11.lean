import Derived.Test.YtmglbkndjnflkaaGreatDoorM9
namespace Go.Proofs.YtmglbkndjnflkaaGreatDoor
open Go.RowKit
set_option linter.unusedSimpArgs false
set_option linter.unusedVariables false

/-- The bounds of the first k classes. -/
def bTo (ks : List DClass) : Nat → List Int
  | 0 => []
  | k + 1 => bTo ks k ++ [match ks[k]? with | some x => sumF (x.body.length + 1) (costs x.insts (bTo ks k) x.body) | none => 0]
theorem bTo_length (ks : List DClass) (k : Nat) : (bTo ks k).length = k := by
  induction k with
  | zero => rfl
  | succ k ih => rw [bTo, List.length_append, ih]; rfl
theorem bTo_bd (ks : List DClass) (k : Nat) : ∀ x, x ∈ bTo ks k → 0 ≤ x ∧ x ≤ 400001 := by
  induction k with
  | zero => intro x h; simp [bTo] at h
  | succ k ih =>
    intro x h
    rw [bTo, List.mem_append, List.mem_singleton] at h
    rcases h with h | rfl
    · exact ih x h
    · cases ks[k]? with
      | none => simp
      | some y => exact sumF_bd _ _ (costs_bd _ _ _ ih)
/-- What the machine's checks say of the bodies. -/
def BodyOK (ks : List DClass) : Prop := ∀ i (hi : i < ks.length), nestF (ks[i].body.length + 1) (kindsOf ks[i].body) 0 = true ∧ ∀ s, s ∈ ks[i].body → s.kind = 3 → 0 ≤ s.at_ ∧ s.at_ < (ks[i].insts.length : Int)
theorem calls_ok (ks : List DClass) (h1 : InstOK ks) (h2 : BodyOK ks) (i : Nat) (hi : i < ks.length) : CallsOK ks[i].insts (bTo ks i) ks[i].body := fun s hs h3 => by
  obtain ⟨e1, e2⟩ := (h2 i hi).2 s hs h3
  obtain ⟨ia, ha⟩ := Int.eq_ofNat_of_zero_le e1
  have hl : ia < ks[i].insts.length := by omega
  obtain ⟨g1, g2⟩ := (h1 i hi).2.2 ia hl
  obtain ⟨gi, hg⟩ := Int.eq_ofNat_of_zero_le g1
  refine ⟨ia, gi, ha, hl, ?_, by rw [bTo_length]; omega⟩
  rw [List.getD_eq_getElem?_getD, List.getElem?_eq_getElem hl]
  exact hg

set_option maxRecDepth 20000 in
set_option maxHeartbeats 4000000 in
theorem l3Bounds_ok (ks : List DClass) (v : Value) (w : World) (h1 : SlAt 7 160 RClass 0 w v ks) (hio : InstOK ks) (hbo : BodyOK ks) (hnn : ks.length ≤ 200) :
    Calls Tryz.prog 22 #[.agg #[v]] w fun e w' => ∃ v, e = .returned v ∧ SlAt 1 8 RInt 0 w' v (bTo ks ks.length) ∧ Below w.heap.size w w' := by
  obtain ⟨b0, c0, rfl⟩ := h1.shape
  obtain ⟨_, _, hv0, _, _, hx⟩ := h1
  simp only [Value.slice.injEq] at hv0
  obtain ⟨rfl, _, rfl⟩ := hv0
  have HX := hide hx
  have HCK := hide (calls_ok ks hio hbo)
  have HBO := hide hbo
  clear hx hio hbo
  have P0 := hide ((Below.refl w.heap.size w).alloc (Nat.le_refl _) (.cells #[.slice b0 ks.length c0] 29))
  have O0 : Hid (OwnInts ((w.alloc (.cells #[.slice b0 ks.length c0] 29)).alloc (.cells #[] 3)) (w.heap.size + 1) (w.heap.size + 1) 0 []) := by
    have := OwnInts.start (w.alloc (.cells #[.slice b0 ks.length c0] 29)) (w.heap.size + 1) (by simp)
    show OwnInts _ _ _ _ _
    simpa using this
  go_enter Tryz.func22, Tryz.ntmps22
  go_wp2
  go_loopg [3, 10] ks.length (fun gh wv i wr => ∃ (k g cap : Nat), k ≤ ks.length ∧ gh = ks.length - k ∧ i = .int .i64 k ∧ wv = .slice (some ⟨g, 0, none⟩) k cap ∧ OwnInts wr (w.heap.size + 1) g cap (bTo ks k) ∧ Below (w.heap.size + 1) (w.alloc (.cells #[.slice b0 ks.length c0] 29)) wr)
  case atStart => exact ⟨0, w.heap.size + 1, 0, Nat.zero_le _, by omega, rfl, rfl, unhide O0, (Below.refl _ _).alloc (by simp) _⟩
  case round =>
    obtain ⟨k, g, cap, hk, hg, rfl, rfl, hown, hblN⟩ := hrel
    rename World => wN
    have HG := hide hg
    have HOW := hide hown
    have HBN := hide hblN
    have BN : Hid (Below w.heap.size w wN) := (unhide P0).trans (hblN.mono (Nat.le_succ _))
    have hgN := hown.lt
    have hgb := hown.base
    have hNs : w.heap.size + 1 ≤ wN.heap.size := by have := hblN.size; simpa using this
    have HWL := hide (bTo_length ks k)
    have HBD := hide (bTo_bd ks k)
    have HD := hide (hown.at (fun x hx => by have := bTo_bd ks k x hx; exact ⟨rfl, by omega, by omega⟩) (by rw [bTo_length]; omega))
    clear hg hown hblN
    by_cases hlt : k < ks.length
    case neg =>
      have e : k = ks.length := by omega
      subst e
      go_wp2
      go_ret
      refine ⟨_, rfl, ?_, unhide BN⟩
      have := unhide HD
      rw [unhide HWL] at this
      exact this
    obtain ⟨b, o, cs, hbo, _, hb, hcs, hc, hR⟩ := unhide HX k hlt
    subst hbo
    have hR := RClass_kept.stays _ _ _ _ _ (unhide BN) hR
    have hc : ∀ j (hj : j < cs.length), wN.cell? ⟨b, o + k * 7 + j, none⟩ = some cs[j] := fun j hj => by rw [(unhide BN).cell (p := ⟨b, _, none⟩) hb]; exact hc j hj
    have HCL := hide (unhide HCK k hlt)
    have HNE := hide (unhide HBO k hlt).1
    have HNX : Hid (bTo ks (k + 1) = bTo ks k ++ [sumF (ks[k].body.length + 1) (costs ks[k].insts (bTo ks k) ks[k].body)]) := by
      show bTo ks (k + 1) = _
      rw [bTo, List.getElem?_eq_getElem hlt]
    have hsb := sumF_bd (ks[k].body.length + 1) (costs ks[k].insts (bTo ks k) ks[k].body) (costs_bd _ _ _ (unhide HBD))
    generalize ks[k] = nd at *
    obtain ⟨s, ins, outs, locs, mems, insts, body⟩ := nd
    obtain ⟨v1, v2, v3, v4, v5, v6, rfl, hsn, q1, q2, q3, q4, q5, q6⟩ := hR
    simp only at hsn q1 q2 q3 q4 q5 q6 HCL HNE HNX hsb
    obtain ⟨b1, c1, rfl⟩ := q1.shape
    obtain ⟨b2, c2, rfl⟩ := q2.shape
    obtain ⟨b3, c3, rfl⟩ := q3.shape
    obtain ⟨b4, c4, rfl⟩ := q4.shape
    obtain ⟨b5, c5, rfl⟩ := q5.shape
    obtain ⟨b6, c6, rfl⟩ := q6.shape
    have y0 := hc 0 (by simp)
    have y1 := hc 1 (by simp)
    have y2 := hc 2 (by simp)
    have y3 := hc 3 (by simp)
    have y4 := hc 4 (by simp)
    have y5 := hc 5 (by simp)
    have y6 := hc 6 (by simp)
    simp only [Nat.mul_one, Nat.add_zero, List.getElem_cons_zero, List.getElem_cons_succ] at y0 y1 y2 y3 y4 y5 y6
    have HCA : Hid (Calls Tryz.prog 44 #[.agg #[.string s, .slice b1 ins.length c1, .slice b2 outs.length c2, .slice b3 locs.length c3, .slice b4 mems.length c4, .slice b5 insts.length c5, .slice b6 body.length c6], .slice b6 body.length c6, .slice (some ⟨g, 0, none⟩) k cap] (wN.alloc (.cells #[.string s, .slice b1 ins.length c1, .slice b2 outs.length c2, .slice b3 locs.length c3, .slice b4 mems.length c4, .slice b5 insts.length c5, .slice b6 body.length c6] 40)) fun e w' => e = .returned (.int .i64 (sumF (body.length + 1) (costs insts (bTo ks k) body))) ∧ Below wN.heap.size wN w') := by
      have hba : Below wN.heap.size wN (wN.alloc (.cells #[.string s, .slice b1 ins.length c1, .slice b2 outs.length c2, .slice b3 locs.length c3, .slice b4 mems.length c4, .slice b5 insts.length c5, .slice b6 body.length c6] 40)) := (Below.refl _ _).alloc (Nat.le_refl _) _
      have hk := (unhide HD).stays RInt_kept hba
      have h := l3Sum_ok s insts (bTo ks k) b1 b2 b3 b4 b5 b6 (some ⟨g, 0, none⟩) ins.length outs.length locs.length mems.length body.length c1 c2 c3 c4 c5 c6 cap (unhide HBD) (body.length + 1) body _ 0 _ (q6.stays RStm_kept hba) (q5.stays RInt_kept hba) hk (unhide HCL) (Nat.lt_succ_self _) (unhide HNE)
      rw [unhide HWL] at h
      refine h.mono ?_
      rintro e w' ⟨rfl, hb'⟩
      exact ⟨rfl, hba.trans (hb'.mono (by simp))⟩
    clear q1 q2 q3 q4 q5 q6 hc hcs HD HX HCL HNE HCK HBO
    generalize sumF (body.length + 1) (costs insts (bTo ks k) body) = sm at *
    go_wp2_with fail
    refine (unhide HCA).mono ?_
    rintro e wq ⟨rfl, hbq⟩
    have hz := hbq.size
    have HQ := hide ((unhide HBN).trans (hbq.mono hNs))
    have HOQ := hide ((unhide HOW).below hbq)
    have HOQ2 : Hid (OwnInts (wq.alloc (.cells #[.int .i64 sm] 3)) (w.heap.size + 1) g cap (bTo ks k)) := (unhide HOQ).below ((Below.refl _ _).alloc (Nat.le_refl _) _)
    have HQ2 : Hid (Below (w.heap.size + 1) _ (wq.alloc (.cells #[.int .i64 sm] 3))) := (unhide HQ).trans ((Below.refl _ _).alloc (by omega) _)
    have HZ := hide hz
    clear hz hbq HCA y0 y1 y2 y3 y4 y5 y6
    go_wp2_with (at_builtin; go_must (refine wpList_append_oneInts _ rfl _ _ rfl (w.heap.size + 1) g cap (bTo ks k) (by rw [unhide HWL]; rfl) (unhide HOQ2) wq.heap.size sm rfl (by rw [World.cell?_alloc_at _ _ _ _ rfl]; rfl) (by rw [unhide HWL]; omega) (by have := unhide HZ; simp; omega) ?_))
    intro g' cap' w7 hown7 hgr7
    have B7 := grow_below (unhide HQ2) hgr7 (by have := unhide HZ; simp; omega) hgb
    rw [← unhide HNX] at hown7
    have HO7 := hide hown7
    have HB7 := hide B7
    rw [unhide HWL]
    clear hown7 hgr7 B7
    go_wp2
    go_roundg (ks.length - (k + 1))
    case measure => have := unhide HG; omega
    case rel => exact ⟨k + 1, g', cap', by omega, rfl, by go_num, rfl, unhide HO7, unhide HB7⟩

end Go.Proofs.YtmglbkndjnflkaaGreatDoor
namespace Go.Proofs.YtmglbkndjnflkaaGreatDoor
open Go.RowKit
set_option linter.unusedSimpArgs false
set_option linter.unusedVariables false

def varBad (vars : List ByteArray) (i : Nat) : Bool := match vars[i]? with | some x => !nameB x || decide (placeI vars x < (i : Int)) | none => false
def memB (v : Int) : Bool := v == IntKind.i32.wrap v
/-- Is the variable of the If at place i given a value within it? -/
def ifBad (body : List DStm) (i : Nat) : Bool := match body[i]? with
  | none => false
  | some s => s.kind == 4 && (List.range (partsI (kindsOf body) i).2.toNat).any (fun j => decide (i ≤ j) && (match body[j]? with | some t => wrB t s.name | none => false))
def classB (ks : List DClass) (i : Nat) : Bool := match ks[i]? with
  | none => false
  | some k => (nameB k.name && decide (1 ≤ k.outs.length) && decide (k.mems.length ≤ 1000) && decide (k.insts.length ≤ 1000) && decide (k.body.length ≤ 30000))
    && ((List.range i).all (fun j => !(match ks[j]? with | some y => y.name.toList == k.name.toList | none => false))
    && (decide ((varsOf k).length ≤ 1000)
    && ((List.range (varsOf k).length).all (fun j => !varBad (varsOf k) j)
    && ((k.ins ++ k.outs).all (fun t => decide (1 ≤ t.type ∧ t.type ≤ 2))
    && (k.mems.all memB
    && (k.insts.all (fun g => decide (0 ≤ g ∧ g < (i : Int)))
    && (k.body.all (stmB ks k)
    && (nestF (k.body.length + 1) (kindsOf k.body) 0
    && (List.range k.body.length).all (fun j => !ifBad k.body j)))))))))
def machB (ks : List DClass) : Bool := decide (1 ≤ ks.length ∧ ks.length ≤ 200) && ((List.range ks.length).all (classB ks) && ((cTo ks ks.length).all (fun n => decide (n ≤ 20000)) && (bTo ks ks.length).all (fun n => decide (n ≤ 400000))))

theorem stm_call (ks : List DClass) (k : DClass) (s : DStm) (h : stmB ks k s = true) (h3 : s.kind = 3) : 0 ≤ s.at_ ∧ s.at_ < (k.insts.length : Int) := by
  have hc : callB ks k s = true := by
    unfold stmB at h
    rw [h3] at h
    simp only at h
    split at h
    · cases h
    split at h
    · rename_i hh; exact absurd rfl hh.2.1
    split at h
    · rename_i hh; exact absurd rfl hh.1
    split at h
    · cases h
    simpa using h
  unfold callB at hc
  split at hc
  · cases hc
  · omega
theorem class_gives (ks : List DClass) (h : ∀ i, i < ks.length → classB ks i = true) : InstOK ks ∧ BodyOK ks := by
  have hh : ∀ i (hi : i < ks.length), (ks[i].mems.length ≤ 1000 ∧ ks[i].insts.length ≤ 1000 ∧ ∀ q (hq : q < ks[i].insts.length), 0 ≤ ks[i].insts[q] ∧ ks[i].insts[q] < (i : Int)) ∧ nestF (ks[i].body.length + 1) (kindsOf ks[i].body) 0 = true ∧ ∀ s, s ∈ ks[i].body → stmB ks ks[i] s = true := fun i hi => by
    have h0 := h i hi
    unfold classB at h0
    rw [List.getElem?_eq_getElem hi] at h0
    simp only [Bool.and_eq_true, List.all_eq_true] at h0
    obtain ⟨⟨⟨⟨_, a1⟩, a2⟩, _⟩, _, _, _, _, _, a3, a4, a5, _⟩ := h0
    refine ⟨⟨of_decide_eq_true a1, of_decide_eq_true a2, fun q hq => ?_⟩, a5, a4⟩
    have := a3 ks[i].insts[q] (List.getElem_mem hq)
    exact of_decide_eq_true this
  exact ⟨fun i hi => (hh i hi).1, fun i hi => ⟨(hh i hi).2.1, fun s hs h3 => stm_call ks ks[i] s ((hh i hi).2.2 s hs) h3⟩⟩

/-- What a class's check is asked to answer. -/
def ClassDoes (ks : List DClass) (v : Value) (w : World) : Prop := ∀ i, i < ks.length → ∀ w', Below w.heap.size w w' → Calls Tryz.prog 20 #[.agg #[v], .int .i64 (i : Int)] w' (Ans (.bool (classB ks i)) w')

set_option maxRecDepth 20000 in
set_option maxHeartbeats 4000000 in
theorem machineOK_of (ks : List DClass) (v : Value) (w : World) (hv : SlAt 7 160 RClass 0 w v ks) (hcl : ClassDoes ks v w) :
    Calls Tryz.prog 10 #[.agg #[v]] w (Ans (.bool (machB ks)) w) := by
  have HV := hide hv
  have HCL := hide hcl
  have hlm := hv.lenM
  obtain ⟨b0, c0, rfl⟩ := hv.shape
  clear hv hcl
  have hA : Below w.heap.size w (w.alloc (.cells #[.slice b0 ks.length c0] 29)) := (Below.refl _ _).alloc (Nat.le_refl _) _
  have hBK : BlkAt (w.alloc (.cells #[.slice b0 ks.length c0] 29)) w.heap.size 29 #[.slice b0 ks.length c0] := blk_box w #[.slice b0 ks.length c0] 29
  obtain ⟨BX, hBX⟩ : ∃ BX : World → Prop, ∀ w', BX w' ↔ Below (w.heap.size + 1) (w.alloc (.cells #[.slice b0 ks.length c0] 29)) w' := ⟨_, fun _ => Iff.rfl⟩
  have hAz : (w.alloc (.cells #[.slice b0 ks.length c0] 29)).heap.size = w.heap.size + 1 := by simp
  have HX1 : Hid (∀ w1, BX w1 → Below w.heap.size w w1) := fun w1 h => hA.trans (((hBX w1).1 h).mono (by omega))
  have HX2 : Hid (∀ w1 w2, BX w1 → Below w1.heap.size w1 w2 → BX w2) := fun w1 w2 h h2 => (hBX w2).2 (((hBX w1).1 h).trans (h2.mono (by have := ((hBX w1).1 h).size; omega)))
  have HX4 : Hid (∀ w1, BX w1 → w1.cell? ⟨w.heap.size, 0, none⟩ = some (.slice b0 ks.length c0)) := fun w1 h => (hBK.below ((hBX w1).1 h) (by omega)).cell (i := 0) (v := .slice b0 ks.length c0) rfl
  have HX0 : Hid (BX (w.alloc (.cells #[.slice b0 ks.length c0] 29))) := (hBX _).2 (Below.refl _ _)
  have HA := hide hA
  clear hA hBK hBX hAz
  have HM : Hid (machB ks = (decide (1 ≤ ks.length ∧ ks.length ≤ 200) && ((List.range ks.length).all (classB ks) && ((cTo ks ks.length).all (fun n => decide (n ≤ 20000)) && (bTo ks ks.length).all (fun n => decide (n ≤ 400000)))))) := rfl
  generalize machB ks = R at *
  by_cases h1 : (ks.length : Int) < 1
  · have e1 : decide ((ks.length : Int) < 1) = true := decide_eq_true h1
    have HF : Hid (R = false) := (unhide HM).trans (by rw [decide_eq_false (by omega), Bool.false_and])
    clear HM
    go_enter Tryz.func10, Tryz.ntmps10
    go_wp2
    go_ret
    exact ⟨ret_bl (unhide HF).symm, unhide HA⟩
  have e1 : decide ((ks.length : Int) < 1) = false := decide_eq_false h1
  by_cases h2 : 200 < (ks.length : Int)
  · have e2 : decide (200 < (ks.length : Int)) = true := decide_eq_true h2
    have HF : Hid (R = false) := (unhide HM).trans (by rw [decide_eq_false (by omega), Bool.false_and])
    clear HM
    go_enter Tryz.func10, Tryz.ntmps10
    go_wp2
    go_ret
    exact ⟨ret_bl (unhide HF).symm, unhide HA⟩
  have e2 : decide (200 < (ks.length : Int)) = false := decide_eq_false h2
  have HM2 : Hid (R = ((List.range ks.length).all (classB ks) && ((cTo ks ks.length).all (fun n => decide (n ≤ 20000)) && (bTo ks ks.length).all (fun n => decide (n ≤ 400000))))) := (unhide HM).trans (by rw [decide_eq_true ⟨by omega, by omega⟩, Bool.true_and])
  have h200 : ks.length ≤ 200 := by omega
  clear HM h1 h2
  go_enter Tryz.func10, Tryz.ntmps10
  go_wp2
  go_loopg [21] ks.length (fun g iv wr => ∃ (i : Nat), i ≤ ks.length ∧ g = ks.length - i ∧ iv = .int .i64 i ∧ (∀ j, j < i → classB ks j = true) ∧ BX wr)
  case atStart => exact ⟨0, Nat.zero_le _, by omega, rfl, fun j hj => absurd hj (Nat.not_lt_zero _), unhide HX0⟩
  case round =>
    obtain ⟨i, hi, hg, rfl, hno, hbx⟩ := hrel
    rename World => wr
    have HG := hide hg
    have HNO := hide hno
    have HBX := hide hbx
    have q0 := unhide HX4 _ hbx
    clear hg hno hbx
    by_cases hlt : i < ks.length
    · have HC1 := hide (unhide HCL i hlt wr (unhide HX1 _ (unhide HBX)))
      have HN : Hid (classB ks i = false → R = false) := fun h => (unhide HM2).trans (by rw [show (List.range ks.length).all (classB ks) = false from (by rw [List.all_eq_false]; exact ⟨i, List.mem_range.2 hlt, by simp [h]⟩), Bool.false_and])
      have HY : Hid (classB ks i = true → ∀ j, j < i + 1 → classB ks j = true) := fun h j hji => by
        by_cases e : j = i
        · subst e; exact h
        · exact unhide HNO j (by omega)
      have hlt' : (i : Int) < (ks.length : Int) := by omega
      generalize classB ks i = cb at *
      cases cb
      · have HF := hide (unhide HN rfl)
        clear HN HY
        go_wp2_with fail
        refine (unhide HC1).mono ?_
        rintro e w5 ⟨rfl, hb5⟩
        have HB := hide (unhide HX1 _ (unhide HX2 _ _ (unhide HBX) hb5))
        clear hb5
        go_wp2
        go_ret
        exact ⟨ret_bl (unhide HF).symm, unhide HB⟩
      · have HY2 := hide (unhide HY rfl)
        clear HN HY
        go_wp2_with fail
        refine (unhide HC1).mono ?_
        rintro e w5 ⟨rfl, hb5⟩
        have HB := hide (unhide HX2 _ _ (unhide HBX) hb5)
        clear hb5
        go_wp2
        go_roundg (ks.length - (i + 1))
        case measure => have := unhide HG; omega
        case rel => exact ⟨i + 1, by omega, rfl, by go_num, unhide HY2, unhide HB⟩
    · have e : i = ks.length := by omega
      subst e
      have HOK := hide (class_gives ks (unhide HNO))
      have HM3 : Hid (R = ((cTo ks ks.length).all (fun n => decide (n ≤ 20000)) && (bTo ks ks.length).all (fun n => decide (n ≤ 400000)))) := (unhide HM2).trans (by rw [show (List.range ks.length).all (classB ks) = true from (by rw [List.all_eq_true]; exact fun j hj => unhide HNO j (List.mem_range.1 hj)), Bool.true_and])
      have HC1 := hide (l3Cells_ok ks _ wr ((unhide HV).stays RClass_kept (unhide HX1 _ (unhide HBX))) (unhide HOK).1 h200)
      have hcl0 := cTo_length ks ks.length
      clear HM2 HNO HG
      go_wp2_with fail
      refine (unhide HC1).mono ?_
      rintro e w5 ⟨lv, rfl, hSL, hb5⟩
      have hx5 := unhide HX2 _ _ (unhide HBX) hb5
      have HB5 := hide hx5
      clear hb5 hx5 HC1 HBX
      obtain ⟨la, lc, rfl⟩ := hSL.shape
      have HLE : Hid (∀ i (hi : i < (cTo ks ks.length).length), ∃ b o, la = some ⟨b, o, none⟩ ∧ w5.cell? ⟨b, o + i, none⟩ = some (.int .i64 (cTo ks ks.length)[i])) := fun i hi => by
        obtain ⟨_, _, hv9, _, _, hx9⟩ := hSL
        simp only [Value.slice.injEq] at hv9
        obtain ⟨rfl, _, rfl⟩ := hv9
        obtain ⟨b, o, cs, rfl, _, hb, _, hc, ⟨rfl, hr⟩⟩ := hx9 i hi
        refine ⟨b, o, rfl, ?_⟩
        have h0 := hc 0 (by simp)
        rw [Nat.mul_one, Nat.add_zero] at h0
        exact h0
      have hll := hSL.lenM
      clear hSL
      generalize hcs : cTo ks ks.length = cl at *
      clear hcs hcl0
      go_wp2
      go_loopg [32] cl.length (fun g iv wr => ∃ (i : Nat), i ≤ cl.length ∧ g = cl.length - i ∧ iv = .int .i64 i ∧ (∀ j (hj : j < cl.length), j < i → decide (cl[j] ≤ 20000) = true) ∧ wr = w5)
      case atStart => exact ⟨0, Nat.zero_le _, by omega, rfl, fun j _ hj => absurd hj (Nat.not_lt_zero _), rfl⟩
      case round =>
        obtain ⟨i, hi, hg, rfl, hno, rfl⟩ := hrel
        have HG := hide hg
        have HNO := hide hno
        clear hg hno
        by_cases hlt : i < cl.length
        · obtain ⟨b, o, rfl, x0⟩ := unhide HLE i hlt
          have HN : Hid (¬ cl[i] ≤ 20000 → R = false) := fun h => (unhide HM3).trans (by rw [all_no i hlt (decide_eq_false h), Bool.false_and])
          have HY : Hid (cl[i] ≤ 20000 → ∀ j (hj : j < cl.length), j < i + 1 → decide (cl[j] ≤ 20000) = true) := fun h j hj hji => by
            by_cases e : j = i
            · subst e; exact decide_eq_true h
            · exact unhide HNO j hj (by omega)
          have hlt' : (i : Int) < (cl.length : Int) := by omega
          generalize cl[i] = n at *
          by_cases hn : 20000 < n
          · have f1 : decide (20000 < n) = true := decide_eq_true hn
            have HF := hide (unhide HN (by omega))
            have HB := hide (unhide HX1 _ (unhide HB5))
            clear HN HY
            go_wp2
            go_ret
            exact ⟨ret_bl (unhide HF).symm, unhide HB⟩
          · have f1 : decide (20000 < n) = false := decide_eq_false hn
            have HY2 := hide (unhide HY (by omega))
            clear HN HY
            go_wp2
            go_roundg (cl.length - (i + 1))
            case measure => have := unhide HG; omega
            case rel => exact ⟨i + 1, by omega, rfl, by go_num, unhide HY2, rfl⟩
        · have e : i = cl.length := by omega
          subst e
          have HM4 : Hid (R = (bTo ks ks.length).all (fun n => decide (n ≤ 400000))) := (unhide HM3).trans (by rw [all_yes (fun j hj => unhide HNO j hj hj), Bool.true_and])
          have q5 := unhide HX4 _ (unhide HB5)
          have HC2 := hide (l3Bounds_ok ks _ _ ((unhide HV).stays RClass_kept (unhide HX1 _ (unhide HB5))) (unhide HOK).1 (unhide HOK).2 h200)
          clear HM3 HNO HG HLE hi
          go_wp2_with fail
          refine (unhide HC2).mono ?_
          rintro e w6 ⟨lv, rfl, hSL, hb6⟩
          have hx6 := unhide HX2 _ _ (unhide HB5) hb6
          have HB6 := hide (unhide HX1 _ hx6)
          clear hb6 hx6 HC2
          obtain ⟨ma, mc, rfl⟩ := hSL.shape
          have HLE : Hid (∀ i (hi : i < (bTo ks ks.length).length), ∃ b o, ma = some ⟨b, o, none⟩ ∧ w6.cell? ⟨b, o + i, none⟩ = some (.int .i64 (bTo ks ks.length)[i])) := fun i hi => by
            obtain ⟨_, _, hv9, _, _, hx9⟩ := hSL
            simp only [Value.slice.injEq] at hv9
            obtain ⟨rfl, _, rfl⟩ := hv9
            obtain ⟨b, o, cs, rfl, _, hb, _, hc, ⟨rfl, hr⟩⟩ := hx9 i hi
            refine ⟨b, o, rfl, ?_⟩
            have h0 := hc 0 (by simp)
            rw [Nat.mul_one, Nat.add_zero] at h0
            exact h0
          have hml := hSL.lenM
          clear hSL
          generalize bTo ks ks.length = bl at *
          go_wp2
          go_loopg [42] bl.length (fun g iv wr => ∃ (i : Nat), i ≤ bl.length ∧ g = bl.length - i ∧ iv = .int .i64 i ∧ (∀ j (hj : j < bl.length), j < i → decide (bl[j] ≤ 400000) = true) ∧ wr = w6)
          case atStart => exact ⟨0, Nat.zero_le _, by omega, rfl, fun j _ hj => absurd hj (Nat.not_lt_zero _), rfl⟩
          case round =>
            obtain ⟨i, hi, hg, rfl, hno, rfl⟩ := hrel
            have HG := hide hg
            have HNO := hide hno
            clear hg hno
            by_cases hlt : i < bl.length
            · obtain ⟨b, o, rfl, x0⟩ := unhide HLE i hlt
              have HN : Hid (¬ bl[i] ≤ 400000 → R = false) := fun h => (unhide HM4).trans (all_no i hlt (decide_eq_false h))
              have HY : Hid (bl[i] ≤ 400000 → ∀ j (hj : j < bl.length), j < i + 1 → decide (bl[j] ≤ 400000) = true) := fun h j hj hji => by
                by_cases e : j = i
                · subst e; exact decide_eq_true h
                · exact unhide HNO j hj (by omega)
              have hlt' : (i : Int) < (bl.length : Int) := by omega
              generalize bl[i] = n at *
              by_cases hn : 400000 < n
              · have f1 : decide (400000 < n) = true := decide_eq_true hn
                have HF := hide (unhide HN (by omega))
                clear HN HY
                go_wp2
                go_ret
                exact ⟨ret_bl (unhide HF).symm, unhide HB6⟩
              · have f1 : decide (400000 < n) = false := decide_eq_false hn
                have HY2 := hide (unhide HY (by omega))
                clear HN HY
                go_wp2
                go_roundg (bl.length - (i + 1))
                case measure => have := unhide HG; omega
                case rel => exact ⟨i + 1, by omega, rfl, by go_num, unhide HY2, rfl⟩
            · have e : i = bl.length := by omega
              subst e
              have HF : Hid (R = true) := (unhide HM4).trans (all_yes (fun j hj => unhide HNO j hj hj))
              go_wp2
              go_ret
              exact ⟨ret_bl (unhide HF).symm, unhide HB6⟩

end Go.Proofs.YtmglbkndjnflkaaGreatDoor
namespace Go.Proofs.YtmglbkndjnflkaaGreatDoor
open Go.RowKit
set_option linter.unusedSimpArgs false
set_option linter.unusedVariables false

def hasB (ks : List DClass) (c : Int) : Bool := machB ks && decide (0 ≤ c ∧ c < (ks.length : Int))
theorem mach_gives (ks : List DClass) (h : machB ks = true) : (InstOK ks ∧ BodyOK ks) ∧ ks.length ≤ 200 := by
  unfold machB at h
  simp only [Bool.and_eq_true, List.all_eq_true] at h
  obtain ⟨a1, a2, _⟩ := h
  exact ⟨class_gives ks (fun i hi => a2 i (List.mem_range.2 hi)), (of_decide_eq_true a1).2⟩
theorem ClassDoes.later {ks : List DClass} {v : Value} {w w' : World} (h : ClassDoes ks v w) (hb : Below w.heap.size w w') : ClassDoes ks v w' := fun i hi w1 h1 => h i hi w1 (hb.trans (h1.mono hb.size))

end Go.Proofs.YtmglbkndjnflkaaGreatDoor
