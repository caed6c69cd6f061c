import Derived.Test.YtjjldnkhadakcaaGreatM8
namespace Go.Proofs.YtjjldnkhadakcaaGreat
open Go.RowKit
set_option linter.unusedSimpArgs false
set_option linter.unusedVariables false

def cSum (l : List Int) (n : Nat) (insts : List Int) : Nat → Int
  | 0 => n
  | q + 1 => cSum l n insts q + l.getD (insts.getD q 0).toNat 0
def capC (n : Int) : Int := if 20000 < n then 20001 else n
/-- The cells of the first k classes. -/
def cTo (ks : List DClass) : Nat → List Int
  | 0 => []
  | k + 1 => cTo ks k ++ [match ks[k]? with | some x => capC (cSum (cTo ks k) x.mems.length x.insts x.insts.length) | none => 0]
theorem cTo_length (ks : List DClass) (k : Nat) : (cTo ks k).length = k := by
  induction k with
  | zero => rfl
  | succ k ih => rw [cTo, List.length_append, ih]; rfl
theorem getD_bd (l : List Int) (B : Int) (hB : 0 ≤ B) (h : ∀ x, x ∈ l → 0 ≤ x ∧ x ≤ B) (i : Nat) : 0 ≤ l.getD i 0 ∧ l.getD i 0 ≤ B := by
  rw [List.getD_eq_getElem?_getD]
  cases e : l[i]? with
  | none => exact ⟨Int.le_refl _, hB⟩
  | some x => exact h x (List.mem_of_getElem? e)
theorem cSum_bd (l : List Int) (n : Nat) (insts : List Int) (h : ∀ x, x ∈ l → 0 ≤ x ∧ x ≤ 20001) (q : Nat) : 0 ≤ cSum l n insts q ∧ cSum l n insts q ≤ n + q * 20001 := by
  induction q with
  | zero => simp only [cSum]; omega
  | succ q ih =>
    have := getD_bd l 20001 (by omega) h (insts.getD q 0).toNat
    simp only [cSum]
    omega
theorem capC_bd (n : Int) (h : 0 ≤ n) : 0 ≤ capC n ∧ capC n ≤ 20001 := by
  unfold capC
  split <;> omega
theorem cTo_bd (ks : List DClass) (k : Nat) : ∀ x, x ∈ cTo ks k → 0 ≤ x ∧ x ≤ 20001 := by
  induction k with
  | zero => intro x h; simp [cTo] at h
  | succ k ih =>
    intro x h
    rw [cTo, List.mem_append, List.mem_singleton] at h
    rcases h with h | rfl
    · exact ih x h
    · cases ks[k]? with
      | none => simp
      | some y => exact capC_bd _ (cSum_bd _ _ _ ih _).1

theorem l3StmOK_ok (ks : List DClass) (k : DClass) (s : DStm) (a1 a2 a3 a4 a5 a6 mv ov cv av : Value) (w : World) (hm : SlAt 7 160 RClass 0 w mv ks) (h : ClassIn w k a1 a2 a3 a4 a5 a6) (h1 : SlAt 1 16 RStr 0 w ov s.outs) (h2 : SlAt 3 32 RItem 0 w cv s.code) (h3 : SlAt 1 24 RItems 0 w av s.args)
    (hin : ∀ j (hj : j < k.insts.length), 0 ≤ k.insts[j] ∧ k.insts[j] < ks.length) :
    Calls Tryz.prog 48 #[.agg #[mv], .agg #[.string k.name, a1, a2, a3, a4, a5, a6], .agg #[.int .i64 s.kind, .string s.name, .int .i64 s.at_, ov, cv, av]] w (Ans (.bool (stmB ks k s)) w) := by
  obtain ⟨kd, nm, atv, outs, code, args⟩ := s
  simp only at h1 h2 h3 ⊢
  by_cases e1 : kd = 1
  · subst e1; exact l3StmOK_k1 ks k nm atv outs code args a1 a2 a3 a4 a5 a6 mv ov cv av w hm h h1 h2 h3 hin
  by_cases e2 : kd = 2
  · subst e2; exact l3StmOK_k2 ks k nm atv outs code args a1 a2 a3 a4 a5 a6 mv ov cv av w hm h h1 h2 h3 hin
  by_cases e3 : kd = 3
  · subst e3; exact l3StmOK_k3 ks k nm atv outs code args a1 a2 a3 a4 a5 a6 mv ov cv av w hm h h1 h2 h3 hin
  by_cases e4 : kd = 4
  · subst e4; exact l3StmOK_k4 ks k nm atv outs code args a1 a2 a3 a4 a5 a6 mv ov cv av w hm h h1 h2 h3 hin
  by_cases e5 : kd = 5
  · subst e5; exact l3StmOK_k5 ks k nm atv outs code args a1 a2 a3 a4 a5 a6 mv ov cv av w hm h h1 h2 h3 hin
  by_cases e6 : kd = 6
  · subst e6; exact l3StmOK_k6 ks k nm atv outs code args a1 a2 a3 a4 a5 a6 mv ov cv av w hm h h1 h2 h3 hin
  exact l3StmOK_other ks k nm atv outs code args kd ⟨e1, e2, e3, e4, e5, e6⟩ a1 a2 a3 a4 a5 a6 mv ov cv av w hm h h1 h2 h3 hin

/-- What the machine's checks say of the instances and the sizes. -/
def InstOK (ks : List DClass) : Prop := ∀ i (hi : i < ks.length), ks[i].mems.length ≤ 1000 ∧ ks[i].insts.length ≤ 1000 ∧ ∀ q (hq : q < ks[i].insts.length), 0 ≤ ks[i].insts[q] ∧ ks[i].insts[q] < (i : Int)

set_option maxRecDepth 20000 in
set_option maxHeartbeats 4000000 in
theorem l3Cells_ok (ks : List DClass) (v : Value) (w : World) (h1 : SlAt 7 160 RClass 0 w v ks) (hio : InstOK ks) (hnn : ks.length ≤ 200) :
    Calls Tryz.prog 28 #[.agg #[v]] w fun e w' => ∃ v, e = .returned v ∧ SlAt 1 8 RInt 0 w' v (cTo ks ks.length) ∧ Below w.heap.size w w' := by
  obtain ⟨b0, c0, rfl⟩ := h1.shape
  obtain ⟨_, _, hv0, _, _, hx⟩ := h1
  simp only [Value.slice.injEq] at hv0
  obtain ⟨rfl, _, rfl⟩ := hv0
  have HX := hide hx
  have HIO := hide hio
  clear hx hio
  have P0 := hide ((Below.refl w.heap.size w).alloc (Nat.le_refl _) (.cells #[.slice b0 ks.length c0] 29))
  have O0 : Hid (OwnInts ((w.alloc (.cells #[.slice b0 ks.length c0] 29)).alloc (.cells #[] 3)) (w.heap.size + 1) (w.heap.size + 1) 0 []) := by
    have := OwnInts.start (w.alloc (.cells #[.slice b0 ks.length c0] 29)) (w.heap.size + 1) (by simp)
    show OwnInts _ _ _ _ _
    simpa using this
  go_enter Tryz.func28, Tryz.ntmps28
  go_wp2
  go_loopg [3, 13] ks.length (fun gh wv i wr => ∃ (k g cap : Nat), k ≤ ks.length ∧ gh = ks.length - k ∧ i = .int .i64 k ∧ wv = .slice (some ⟨g, 0, none⟩) k cap ∧ OwnInts wr (w.heap.size + 1) g cap (cTo ks k) ∧ Below (w.heap.size + 1) (w.alloc (.cells #[.slice b0 ks.length c0] 29)) wr)
  case atStart => exact ⟨0, w.heap.size + 1, 0, Nat.zero_le _, by omega, rfl, rfl, unhide O0, (Below.refl _ _).alloc (by simp) _⟩
  case round =>
    obtain ⟨k, g, cap, hk, hg, rfl, rfl, hown, hblN⟩ := hrel
    rename World => wN
    have HG := hide hg
    have HOW := hide hown
    have HBN := hide hblN
    have BN : Hid (Below w.heap.size w wN) := (unhide P0).trans (hblN.mono (Nat.le_succ _))
    have hgN := hown.lt
    have hgb := hown.base
    have hNs : w.heap.size + 1 ≤ wN.heap.size := by have := hblN.size; simpa using this
    have HWL := hide (cTo_length ks k)
    have HBD := hide (cTo_bd ks k)
    have HD := hide (hown.at (fun x hx => by have := cTo_bd ks k x hx; exact ⟨rfl, by omega, by omega⟩) (by rw [cTo_length]; omega))
    clear hg hown hblN
    by_cases hlt : k < ks.length
    case neg =>
      have e : k = ks.length := by omega
      subst e
      go_wp2
      go_ret
      refine ⟨_, rfl, ?_, unhide BN⟩
      have := unhide HD
      rw [unhide HWL] at this
      exact this
    obtain ⟨b, o, cs, hbo, _, hb, hcs, hc, hR⟩ := unhide HX k hlt
    subst hbo
    have hR := RClass_kept.stays _ _ _ _ _ (unhide BN) hR
    have hc : ∀ j (hj : j < cs.length), wN.cell? ⟨b, o + k * 7 + j, none⟩ = some cs[j] := fun j hj => by rw [(unhide BN).cell (p := ⟨b, _, none⟩) hb]; exact hc j hj
    obtain ⟨hm9, hi9, hin⟩ := unhide HIO k hlt
    have HNEXT : Hid (cTo ks (k + 1) = cTo ks k ++ [capC (cSum (cTo ks k) ks[k].mems.length ks[k].insts ks[k].insts.length)]) := by
      show cTo ks (k + 1) = _
      rw [cTo, List.getElem?_eq_getElem hlt]
    generalize ks[k] = nd at *
    obtain ⟨s, ins, outs, locs, mems, insts, body⟩ := nd
    obtain ⟨v1, v2, v3, v4, v5, v6, rfl, hsn, q1, q2, q3, q4, q5, q6⟩ := hR
    simp only at hsn q1 q2 q3 q4 q5 q6 hm9 hi9 hin
    obtain ⟨b1, c1, rfl⟩ := q1.shape
    obtain ⟨b2, c2, rfl⟩ := q2.shape
    obtain ⟨b3, c3, rfl⟩ := q3.shape
    obtain ⟨b4, c4, rfl⟩ := q4.shape
    obtain ⟨b5, c5, rfl⟩ := q5.shape
    obtain ⟨b6, c6, rfl⟩ := q6.shape
    have HEL : Hid (∀ q (hq : q < insts.length), ∃ ib io gi, b5 = some ⟨ib, io, none⟩ ∧ gi < k ∧ insts[q] = ((gi : Nat) : Int) ∧ ∀ w', Below wN.heap.size wN w' → w'.cell? ⟨ib, io + q, none⟩ = some (.int .i64 (gi : Int)) ∧ w'.cell? ⟨g, gi, none⟩ = some (.int .i64 ((cTo ks k).getD gi 0))) := fun q hq => by
      obtain ⟨_, _, hve, _, _, hex⟩ := q5
      simp only [Value.slice.injEq] at hve
      obtain ⟨rfl, _, rfl⟩ := hve
      obtain ⟨ib, io, cs, rfl, _, hib, _, hic, ⟨rfl, _⟩⟩ := hex q hq
      obtain ⟨gi, hgi⟩ := Int.eq_ofNat_of_zero_le (hin q hq).1
      have hgk : gi < k := by have := (hin q hq).2; omega
      refine ⟨ib, io, gi, rfl, hgk, hgi, fun w' hb' => ⟨?_, ?_⟩⟩
      · rw [hb'.cell (p := ⟨ib, _, none⟩) hib]
        have h0 := hic 0 (by simp)
        rw [Nat.mul_one, Nat.add_zero] at h0
        rw [h0, ← hgi]
        rfl
      · obtain ⟨a8, c8, hv8, _, _, hx8⟩ := unhide HD
        simp only [Value.slice.injEq] at hv8
        obtain ⟨rfl, _, rfl⟩ := hv8
        obtain ⟨jb, jo, js, hjb, _, hjl, _, hjc, ⟨rfl, _⟩⟩ := hx8 gi (by rw [unhide HWL]; exact hgk)
        simp only [Option.some.injEq, Addr.mk.injEq] at hjb
        obtain ⟨rfl, rfl, _⟩ := hjb
        rw [hb'.cell (p := ⟨g, _, none⟩) hjl]
        have h0 := hjc 0 (by simp)
        rw [Nat.mul_one, Nat.add_zero, Nat.zero_add] at h0
        rw [h0, List.getD_eq_getElem?_getD, List.getElem?_eq_getElem (by rw [unhide HWL]; exact hgk)]
        rfl
    have y0 := hc 0 (by simp)
    have y1 := hc 1 (by simp)
    have y2 := hc 2 (by simp)
    have y3 := hc 3 (by simp)
    have y4 := hc 4 (by simp)
    have y5 := hc 5 (by simp)
    have y6 := hc 6 (by simp)
    simp only [Nat.mul_one, Nat.add_zero, List.getElem_cons_zero, List.getElem_cons_succ] at y0 y1 y2 y3 y4 y5 y6
    simp only at HNEXT
    clear q1 q2 q3 q4 q5 q6 hc hcs hin HD HX
    have HSB := hide (fun q => cSum_bd (cTo ks k) mems.length insts (unhide HBD) q)
    go_wp2
    go_loopg [6, 23] insts.length (fun gh n i wr => ∃ (q : Nat), q ≤ insts.length ∧ gh = insts.length - q ∧ i = .int .i64 q ∧ n = .int .i64 (cSum (cTo ks k) mems.length insts q) ∧ wr = wN.alloc (.cells #[.string s, .slice b1 ins.length c1, .slice b2 outs.length c2, .slice b3 locs.length c3, .slice b4 mems.length c4, .slice b5 insts.length c5, .slice b6 body.length c6] 65))
    case atStart => exact ⟨0, Nat.zero_le _, by omega, rfl, rfl, rfl⟩
    case round =>
      obtain ⟨q, hq, hg2, rfl, rfl, hwr⟩ := hrel
      have HG2 := hide hg2
      have hba : Below wN.heap.size wN (wN.alloc (.cells #[.string s, .slice b1 ins.length c1, .slice b2 outs.length c2, .slice b3 locs.length c3, .slice b4 mems.length c4, .slice b5 insts.length c5, .slice b6 body.length c6] 65)) := (Below.refl _ _).alloc (Nat.le_refl _) _
      have hz : (wN.alloc (.cells #[.string s, .slice b1 ins.length c1, .slice b2 outs.length c2, .slice b3 locs.length c3, .slice b4 mems.length c4, .slice b5 insts.length c5, .slice b6 body.length c6] 65)).heap.size = wN.heap.size + 1 := by simp
      rw [← hwr] at hba hz
      rename World => wq
      have HBA := hide hba
      have HWR : Hid (wq = wN.alloc (.cells #[.string s, .slice b1 ins.length c1, .slice b2 outs.length c2, .slice b3 locs.length c3, .slice b4 mems.length c4, .slice b5 insts.length c5, .slice b6 body.length c6] 65)) := hwr
      clear hg2 hwr y0 y1 y2 y3 y4 y5 y6
      obtain ⟨hs1, hs2⟩ := unhide HSB q
      by_cases hltq : q < insts.length
      case neg =>
        have e : q = insts.length := by omega
        have HNX : Hid (cTo ks (k + 1) = cTo ks k ++ [capC (cSum (cTo ks k) mems.length insts q)]) := by
          show cTo ks (k + 1) = _
          rw [unhide HNEXT, e]
        have HQ := hide ((unhide HBN).trans (hba.mono hNs))
        have HOQ := hide ((unhide HOW).below hba)
        clear HNEXT hba HEL
        generalize cSum (cTo ks k) mems.length insts q = sm at *
        by_cases hgt : 20000 < sm
        · have f1 : decide (20000 < sm) = true := decide_eq_true hgt
          have e9 : capC sm = 20001 := by unfold capC; rw [if_pos hgt]
          rw [e9] at HNX
          have HOQ2 : Hid (OwnInts (wq.alloc (.cells #[.int .i64 20001] 3)) (w.heap.size + 1) g cap (cTo ks k)) := (unhide HOQ).below ((Below.refl _ _).alloc (Nat.le_refl _) _)
          have HQ2 : Hid (Below (w.heap.size + 1) _ (wq.alloc (.cells #[.int .i64 20001] 3))) := (unhide HQ).trans ((Below.refl _ _).alloc (by omega) _)
          have HZ := hide hz
          clear e9 hgt e hz
          go_wp2_with (at_builtin; go_must (refine wpList_append_oneInts _ rfl _ _ rfl (w.heap.size + 1) g cap (cTo ks k) (by rw [unhide HWL]; rfl) (unhide HOQ2) wq.heap.size 20001 rfl (by rw [World.cell?_alloc_at _ _ _ _ rfl]; rfl) (by rw [unhide HWL]; omega) (by have := unhide HZ; simp; omega) ?_))
          intro g' cap' w7 hown7 hgr7
          have B7 := grow_below (unhide HQ2) hgr7 (by have := unhide HZ; simp; omega) hgb
          rw [← unhide HNX] at hown7
          have HO7 := hide hown7
          have HB7 := hide B7
          rw [unhide HWL]
          clear hown7 hgr7 B7
          go_wp2
          go_roundg (ks.length - (k + 1))
          case measure => have := unhide HG; omega
          case rel => exact ⟨k + 1, g', cap', by omega, rfl, by go_num, rfl, unhide HO7, unhide HB7⟩
        · have f1 : decide (20000 < sm) = false := decide_eq_false hgt
          have e9 : capC sm = sm := by unfold capC; rw [if_neg hgt]
          rw [e9] at HNX
          have HOQ2 : Hid (OwnInts (wq.alloc (.cells #[.int .i64 sm] 3)) (w.heap.size + 1) g cap (cTo ks k)) := (unhide HOQ).below ((Below.refl _ _).alloc (Nat.le_refl _) _)
          have HQ2 : Hid (Below (w.heap.size + 1) _ (wq.alloc (.cells #[.int .i64 sm] 3))) := (unhide HQ).trans ((Below.refl _ _).alloc (by omega) _)
          have HZ := hide hz
          clear e9 hgt e hz
          go_wp2_with (at_builtin; go_must (refine wpList_append_oneInts _ rfl _ _ rfl (w.heap.size + 1) g cap (cTo ks k) (by rw [unhide HWL]; rfl) (unhide HOQ2) wq.heap.size sm rfl (by rw [World.cell?_alloc_at _ _ _ _ rfl]; rfl) (by rw [unhide HWL]; omega) (by have := unhide HZ; simp; omega) ?_))
          intro g' cap' w7 hown7 hgr7
          have B7 := grow_below (unhide HQ2) hgr7 (by have := unhide HZ; simp; omega) hgb
          rw [← unhide HNX] at hown7
          have HO7 := hide hown7
          have HB7 := hide B7
          rw [unhide HWL]
          clear hown7 hgr7 B7
          go_wp2
          go_roundg (ks.length - (k + 1))
          case measure => have := unhide HG; omega
          case rel => exact ⟨k + 1, g', cap', by omega, rfl, by go_num, rfl, unhide HO7, unhide HB7⟩
      obtain ⟨ib, io, gi, rfl, hgk, hgi, hcel⟩ := unhide HEL q hltq
      obtain ⟨z1, z2⟩ := hcel _ hba
      have HST : Hid (cSum (cTo ks k) mems.length insts (q + 1) = cSum (cTo ks k) mems.length insts q + (cTo ks k).getD gi 0) := by
        show cSum _ _ _ (q + 1) = _
        rw [cSum, List.getD_eq_getElem?_getD (l := insts), List.getElem?_eq_getElem hltq, Option.getD_some, hgi, Int.toNat_natCast]
      obtain ⟨hg1, hg2⟩ := getD_bd (cTo ks k) 20001 (by omega) (unhide HBD) gi
      have hltq' : (q : Int) < (insts.length : Int) := by omega
      have hgk' : (gi : Int) < (k : Int) := by omega
      clear hcel hgi HEL hba hz
      generalize (cTo ks k).getD gi 0 = gv at *
      generalize hS1 : cSum (cTo ks k) mems.length insts q = sm at *
      clear hS1
      go_wp2
      go_roundg (insts.length - (q + 1))
      case measure => have := unhide HG2; omega
      case rel => exact ⟨q + 1, by omega, rfl, by go_num, by rw [unhide HST], unhide HWR⟩

end Go.Proofs.YtjjldnkhadakcaaGreat
