import Derived.Test.YtjjldnkhadakcaaGreatM10
namespace Go.Proofs.YtjjldnkhadakcaaGreat
open Go.RowKit
set_option linter.unusedSimpArgs false
set_option linter.unusedVariables false

/-- The bounds of the first k classes. -/
def bTo (ks : List DClass) : Nat → List Int
  | 0 => []
  | k + 1 => bTo ks k ++ [match ks[k]? with | some x => sumF (x.body.length + 1) (costs x.insts (bTo ks k) x.body) | none => 0]
theorem bTo_length (ks : List DClass) (k : Nat) : (bTo ks k).length = k := by
  induction k with
  | zero => rfl
  | succ k ih => rw [bTo, List.length_append, ih]; rfl
theorem bTo_bd (ks : List DClass) (k : Nat) : ∀ x, x ∈ bTo ks k → 0 ≤ x ∧ x ≤ 400001 := by
  induction k with
  | zero => intro x h; simp [bTo] at h
  | succ k ih =>
    intro x h
    rw [bTo, List.mem_append, List.mem_singleton] at h
    rcases h with h | rfl
    · exact ih x h
    · cases ks[k]? with
      | none => simp
      | some y => exact sumF_bd _ _ (costs_bd _ _ _ ih)
/-- What the machine's checks say of the bodies. -/
def BodyOK (ks : List DClass) : Prop := ∀ i (hi : i < ks.length), nestF (ks[i].body.length + 1) (kindsOf ks[i].body) 0 = true ∧ ∀ s, s ∈ ks[i].body → s.kind = 3 → 0 ≤ s.at_ ∧ s.at_ < (ks[i].insts.length : Int)
theorem calls_ok (ks : List DClass) (h1 : InstOK ks) (h2 : BodyOK ks) (i : Nat) (hi : i < ks.length) : CallsOK ks[i].insts (bTo ks i) ks[i].body := fun s hs h3 => by
  obtain ⟨e1, e2⟩ := (h2 i hi).2 s hs h3
  obtain ⟨ia, ha⟩ := Int.eq_ofNat_of_zero_le e1
  have hl : ia < ks[i].insts.length := by omega
  obtain ⟨g1, g2⟩ := (h1 i hi).2.2 ia hl
  obtain ⟨gi, hg⟩ := Int.eq_ofNat_of_zero_le g1
  refine ⟨ia, gi, ha, hl, ?_, by rw [bTo_length]; omega⟩
  rw [List.getD_eq_getElem?_getD, List.getElem?_eq_getElem hl]
  exact hg

set_option maxRecDepth 20000 in
set_option maxHeartbeats 4000000 in
theorem l3Bounds_ok (ks : List DClass) (v : Value) (w : World) (h1 : SlAt 7 160 RClass 0 w v ks) (hio : InstOK ks) (hbo : BodyOK ks) (hnn : ks.length ≤ 200) :
    Calls Tryz.prog 29 #[.agg #[v]] w fun e w' => ∃ v, e = .returned v ∧ SlAt 1 8 RInt 0 w' v (bTo ks ks.length) ∧ Below w.heap.size w w' := by
  obtain ⟨b0, c0, rfl⟩ := h1.shape
  obtain ⟨_, _, hv0, _, _, hx⟩ := h1
  simp only [Value.slice.injEq] at hv0
  obtain ⟨rfl, _, rfl⟩ := hv0
  have HX := hide hx
  have HCK := hide (calls_ok ks hio hbo)
  have HBO := hide hbo
  clear hx hio hbo
  have P0 := hide ((Below.refl w.heap.size w).alloc (Nat.le_refl _) (.cells #[.slice b0 ks.length c0] 29))
  have O0 : Hid (OwnInts ((w.alloc (.cells #[.slice b0 ks.length c0] 29)).alloc (.cells #[] 3)) (w.heap.size + 1) (w.heap.size + 1) 0 []) := by
    have := OwnInts.start (w.alloc (.cells #[.slice b0 ks.length c0] 29)) (w.heap.size + 1) (by simp)
    show OwnInts _ _ _ _ _
    simpa using this
  go_enter Tryz.func29, Tryz.ntmps29
  go_wp2
  go_loopg [3, 10] ks.length (fun gh wv i wr => ∃ (k g cap : Nat), k ≤ ks.length ∧ gh = ks.length - k ∧ i = .int .i64 k ∧ wv = .slice (some ⟨g, 0, none⟩) k cap ∧ OwnInts wr (w.heap.size + 1) g cap (bTo ks k) ∧ Below (w.heap.size + 1) (w.alloc (.cells #[.slice b0 ks.length c0] 29)) wr)
  case atStart => exact ⟨0, w.heap.size + 1, 0, Nat.zero_le _, by omega, rfl, rfl, unhide O0, (Below.refl _ _).alloc (by simp) _⟩
  case round =>
    obtain ⟨k, g, cap, hk, hg, rfl, rfl, hown, hblN⟩ := hrel
    rename World => wN
    have HG := hide hg
    have HOW := hide hown
    have HBN := hide hblN
    have BN : Hid (Below w.heap.size w wN) := (unhide P0).trans (hblN.mono (Nat.le_succ _))
    have hgN := hown.lt
    have hgb := hown.base
    have hNs : w.heap.size + 1 ≤ wN.heap.size := by have := hblN.size; simpa using this
    have HWL := hide (bTo_length ks k)
    have HBD := hide (bTo_bd ks k)
    have HD := hide (hown.at (fun x hx => by have := bTo_bd ks k x hx; exact ⟨rfl, by omega, by omega⟩) (by rw [bTo_length]; omega))
    clear hg hown hblN
    by_cases hlt : k < ks.length
    case neg =>
      have e : k = ks.length := by omega
      subst e
      go_wp2
      go_ret
      refine ⟨_, rfl, ?_, unhide BN⟩
      have := unhide HD
      rw [unhide HWL] at this
      exact this
    obtain ⟨b, o, cs, hbo, _, hb, hcs, hc, hR⟩ := unhide HX k hlt
    subst hbo
    have hR := RClass_kept.stays _ _ _ _ _ (unhide BN) hR
    have hc : ∀ j (hj : j < cs.length), wN.cell? ⟨b, o + k * 7 + j, none⟩ = some cs[j] := fun j hj => by rw [(unhide BN).cell (p := ⟨b, _, none⟩) hb]; exact hc j hj
    have HCL := hide (unhide HCK k hlt)
    have HNE := hide (unhide HBO k hlt).1
    have HNX : Hid (bTo ks (k + 1) = bTo ks k ++ [sumF (ks[k].body.length + 1) (costs ks[k].insts (bTo ks k) ks[k].body)]) := by
      show bTo ks (k + 1) = _
      rw [bTo, List.getElem?_eq_getElem hlt]
    have hsb := sumF_bd (ks[k].body.length + 1) (costs ks[k].insts (bTo ks k) ks[k].body) (costs_bd _ _ _ (unhide HBD))
    generalize ks[k] = nd at *
    obtain ⟨s, ins, outs, locs, mems, insts, body⟩ := nd
    obtain ⟨v1, v2, v3, v4, v5, v6, rfl, hsn, q1, q2, q3, q4, q5, q6⟩ := hR
    simp only at hsn q1 q2 q3 q4 q5 q6 HCL HNE HNX hsb
    obtain ⟨b1, c1, rfl⟩ := q1.shape
    obtain ⟨b2, c2, rfl⟩ := q2.shape
    obtain ⟨b3, c3, rfl⟩ := q3.shape
    obtain ⟨b4, c4, rfl⟩ := q4.shape
    obtain ⟨b5, c5, rfl⟩ := q5.shape
    obtain ⟨b6, c6, rfl⟩ := q6.shape
    have y0 := hc 0 (by simp)
    have y1 := hc 1 (by simp)
    have y2 := hc 2 (by simp)
    have y3 := hc 3 (by simp)
    have y4 := hc 4 (by simp)
    have y5 := hc 5 (by simp)
    have y6 := hc 6 (by simp)
    simp only [Nat.mul_one, Nat.add_zero, List.getElem_cons_zero, List.getElem_cons_succ] at y0 y1 y2 y3 y4 y5 y6
    have HCA : Hid (Calls Tryz.prog 52 #[.agg #[.string s, .slice b1 ins.length c1, .slice b2 outs.length c2, .slice b3 locs.length c3, .slice b4 mems.length c4, .slice b5 insts.length c5, .slice b6 body.length c6], .slice b6 body.length c6, .slice (some ⟨g, 0, none⟩) k cap] (wN.alloc (.cells #[.string s, .slice b1 ins.length c1, .slice b2 outs.length c2, .slice b3 locs.length c3, .slice b4 mems.length c4, .slice b5 insts.length c5, .slice b6 body.length c6] 65)) fun e w' => e = .returned (.int .i64 (sumF (body.length + 1) (costs insts (bTo ks k) body))) ∧ Below wN.heap.size wN w') := by
      have hba : Below wN.heap.size wN (wN.alloc (.cells #[.string s, .slice b1 ins.length c1, .slice b2 outs.length c2, .slice b3 locs.length c3, .slice b4 mems.length c4, .slice b5 insts.length c5, .slice b6 body.length c6] 65)) := (Below.refl _ _).alloc (Nat.le_refl _) _
      have hk := (unhide HD).stays RInt_kept hba
      have h := l3Sum_ok s insts (bTo ks k) b1 b2 b3 b4 b5 b6 (some ⟨g, 0, none⟩) ins.length outs.length locs.length mems.length body.length c1 c2 c3 c4 c5 c6 cap (unhide HBD) (body.length + 1) body _ 0 _ (q6.stays RStm_kept hba) (q5.stays RInt_kept hba) hk (unhide HCL) (Nat.lt_succ_self _) (unhide HNE)
      rw [unhide HWL] at h
      refine h.mono ?_
      rintro e w' ⟨rfl, hb'⟩
      exact ⟨rfl, hba.trans (hb'.mono (by simp))⟩
    clear q1 q2 q3 q4 q5 q6 hc hcs HD HX HCL HNE HCK HBO
    generalize sumF (body.length + 1) (costs insts (bTo ks k) body) = sm at *
    go_wp2_with fail
    refine (unhide HCA).mono ?_
    rintro e wq ⟨rfl, hbq⟩
    have hz := hbq.size
    have HQ := hide ((unhide HBN).trans (hbq.mono hNs))
    have HOQ := hide ((unhide HOW).below hbq)
    have HOQ2 : Hid (OwnInts (wq.alloc (.cells #[.int .i64 sm] 3)) (w.heap.size + 1) g cap (bTo ks k)) := (unhide HOQ).below ((Below.refl _ _).alloc (Nat.le_refl _) _)
    have HQ2 : Hid (Below (w.heap.size + 1) _ (wq.alloc (.cells #[.int .i64 sm] 3))) := (unhide HQ).trans ((Below.refl _ _).alloc (by omega) _)
    have HZ := hide hz
    clear hz hbq HCA y0 y1 y2 y3 y4 y5 y6
    go_wp2_with (at_builtin; go_must (refine wpList_append_oneInts _ rfl _ _ rfl (w.heap.size + 1) g cap (bTo ks k) (by rw [unhide HWL]; rfl) (unhide HOQ2) wq.heap.size sm rfl (by rw [World.cell?_alloc_at _ _ _ _ rfl]; rfl) (by rw [unhide HWL]; omega) (by have := unhide HZ; simp; omega) ?_))
    intro g' cap' w7 hown7 hgr7
    have B7 := grow_below (unhide HQ2) hgr7 (by have := unhide HZ; simp; omega) hgb
    rw [← unhide HNX] at hown7
    have HO7 := hide hown7
    have HB7 := hide B7
    rw [unhide HWL]
    clear hown7 hgr7 B7
    go_wp2
    go_roundg (ks.length - (k + 1))
    case measure => have := unhide HG; omega
    case rel => exact ⟨k + 1, g', cap', by omega, rfl, by go_num, rfl, unhide HO7, unhide HB7⟩

end Go.Proofs.YtjjldnkhadakcaaGreat
