import Derived.Test.YtmglbkndjnflkaaGreatDoorM8
namespace Go.Proofs.YtmglbkndjnflkaaGreatDoor
open Go.RowKit
set_option linter.unusedSimpArgs false
set_option linter.unusedVariables false

def cSum (l : List Int) (n : Nat) (insts : List Int) : Nat → Int
  | 0 => n
  | q + 1 => cSum l n insts q + l.getD (insts.getD q 0).toNat 0
def capC (n : Int) : Int := if 20000 < n then 20001 else n
/-- The cells of the first k classes. -/
def cTo (ks : List DClass) : Nat → List Int
  | 0 => []
  | k + 1 => cTo ks k ++ [match ks[k]? with | some x => capC (cSum (cTo ks k) x.mems.length x.insts x.insts.length) | none => 0]
theorem cTo_length (ks : List DClass) (k : Nat) : (cTo ks k).length = k := by
  induction k with
  | zero => rfl
  | succ k ih => rw [cTo, List.length_append, ih]; rfl
theorem getD_bd (l : List Int) (B : Int) (hB : 0 ≤ B) (h : ∀ x, x ∈ l → 0 ≤ x ∧ x ≤ B) (i : Nat) : 0 ≤ l.getD i 0 ∧ l.getD i 0 ≤ B := by
  rw [List.getD_eq_getElem?_getD]
  cases e : l[i]? with
  | none => exact ⟨Int.le_refl _, hB⟩
  | some x => exact h x (List.mem_of_getElem? e)
theorem cSum_bd (l : List Int) (n : Nat) (insts : List Int) (h : ∀ x, x ∈ l → 0 ≤ x ∧ x ≤ 20001) (q : Nat) : 0 ≤ cSum l n insts q ∧ cSum l n insts q ≤ n + q * 20001 := by
  induction q with
  | zero => simp only [cSum]; omega
  | succ q ih =>
    have := getD_bd l 20001 (by omega) h (insts.getD q 0).toNat
    simp only [cSum]
    omega
theorem capC_bd (n : Int) (h : 0 ≤ n) : 0 ≤ capC n ∧ capC n ≤ 20001 := by
  unfold capC
  split <;> omega
theorem cTo_bd (ks : List DClass) (k : Nat) : ∀ x, x ∈ cTo ks k → 0 ≤ x ∧ x ≤ 20001 := by
  induction k with
  | zero => intro x h; simp [cTo] at h
  | succ k ih =>
    intro x h
    rw [cTo, List.mem_append, List.mem_singleton] at h
    rcases h with h | rfl
    · exact ih x h
    · cases ks[k]? with
      | none => simp
      | some y => exact capC_bd _ (cSum_bd _ _ _ ih _).1

theorem l3StmOK_ok (ks : List DClass) (k : DClass) (s : DStm) (a1 a2 a3 a4 a5 a6 mv ov cv av : Value) (w : World) (hm : SlAt 7 160 RClass 0 w mv ks) (h : ClassIn w k a1 a2 a3 a4 a5 a6) (h1 : SlAt 1 16 RStr 0 w ov s.outs) (h2 : SlAt 3 32 RItem 0 w cv s.code) (h3 : SlAt 1 24 RItems 0 w av s.args)
    (hin : ∀ j (hj : j < k.insts.length), 0 ≤ k.insts[j] ∧ k.insts[j] < ks.length) :
    Calls Tryz.prog 40 #[.agg #[mv], .agg #[.string k.name, a1, a2, a3, a4, a5, a6], .agg #[.int .i64 s.kind, .string s.name, .int .i64 s.at_, ov, cv, av]] w (Ans (.bool (stmB ks k s)) w) := by
  obtain ⟨kd, nm, atv, outs, code, args⟩ := s
  simp only at h1 h2 h3 ⊢
  by_cases e1 : kd = 1
  · subst e1; exact l3StmOK_k1 ks k nm atv outs code args a1 a2 a3 a4 a5 a6 mv ov cv av w hm h h1 h2 h3 hin
  by_cases e2 : kd = 2
  · subst e2; exact l3StmOK_k2 ks k nm atv outs code args a1 a2 a3 a4 a5 a6 mv ov cv av w hm h h1 h2 h3 hin
  by_cases e3 : kd = 3
  · subst e3; exact l3StmOK_k3 ks k nm atv outs code args a1 a2 a3 a4 a5 a6 mv ov cv av w hm h h1 h2 h3 hin
  by_cases e4 : kd = 4
  · subst e4; exact l3StmOK_k4 ks k nm atv outs code args a1 a2 a3 a4 a5 a6 mv ov cv av w hm h h1 h2 h3 hin
  by_cases e5 : kd = 5
  · subst e5; exact l3StmOK_k5 ks k nm atv outs code args a1 a2 a3 a4 a5 a6 mv ov cv av w hm h h1 h2 h3 hin
  by_cases e6 : kd = 6
  · subst e6; exact l3StmOK_k6 ks k nm atv outs code args a1 a2 a3 a4 a5 a6 mv ov cv av w hm h h1 h2 h3 hin
  exact l3StmOK_other ks k nm atv outs code args kd ⟨e1, e2, e3, e4, e5, e6⟩ a1 a2 a3 a4 a5 a6 mv ov cv av w hm h h1 h2 h3 hin

/-- What the machine's checks say of the instances and the sizes. -/
def InstOK (ks : List DClass) : Prop := ∀ i (hi : i < ks.length), ks[i].mems.length ≤ 1000 ∧ ks[i].insts.length ≤ 1000 ∧ ∀ q (hq : q < ks[i].insts.length), 0 ≤ ks[i].insts[q] ∧ ks[i].insts[q] < (i : Int)

set_option maxRecDepth 20000 in
set_option maxHeartbeats 4000000 in
theorem l3Cells_ok (ks : List DClass) (v : Value) (w : World) (h1 : SlAt 7 160 RClass 0 w v ks) (hio : InstOK ks) (hnn : ks.length ≤ 200) :
    Calls Tryz.prog 21 #[.agg #[v]] w fun e w' => ∃ v, e = .returned v ∧ SlAt 1 8 RInt 0 w' v (cTo ks ks.length) ∧ Below w.heap.size w w' := by
  obtain ⟨b0, c0, rfl⟩ := h1.shape
  obtain ⟨_, _, hv0, _, _, hx⟩ := h1
  simp only [Value.slice.injEq] at hv0
  obtain ⟨rfl, _, rfl⟩ := hv0
  have HX := hide hx
  have HIO := hide hio
  clear hx hio
  have P0 := hide ((Below.refl w.heap.size w).alloc (Nat.le_refl _) (.cells #[.slice b0 ks.length c0] 29))
  have O0 : Hid (OwnInts ((w.alloc (.cells #[.slice b0 ks.length c0] 29)).alloc (.cells #[] 3)) (w.heap.size + 1) (w.heap.size + 1) 0 []) := by
    have := OwnInts.start (w.alloc (.cells #[.slice b0 ks.length c0] 29)) (w.heap.size + 1) (by simp)
    show OwnInts _ _ _ _ _
    simpa using this
  go_enter Tryz.func21, Tryz.ntmps21
  go_wp2
  go_loopg [3, 13] ks.length (fun gh wv i wr => ∃ (k g cap : Nat), k ≤ ks.length ∧ gh = ks.length - k ∧ i = .int .i64 k ∧ wv = .slice (some ⟨g, 0, none⟩) k cap ∧ OwnInts wr (w.heap.size + 1) g cap (cTo ks k) ∧ Below (w.heap.size + 1) (w.alloc (.cells #[.slice b0 ks.length c0] 29)) wr)
  case atStart => exact ⟨0, w.heap.size + 1, 0, Nat.zero_le _, by omega, rfl, rfl, unhide O0, (Below.refl _ _).alloc (by simp) _⟩
  case round =>
    obtain ⟨k, g, cap, hk, hg, rfl, rfl, hown, hblN⟩ := hrel
    rename World => wN
    have HG := hide hg
    have HOW := hide hown
    have HBN := hide hblN
    have BN : Hid (Below w.heap.size w wN) := (unhide P0).trans (hblN.mono (Nat.le_succ _))
    have hgN := hown.lt
    have hgb := hown.base
    have hNs : w.heap.size + 1 ≤ wN.heap.size := by have := hblN.size; simpa using this
    have HWL := hide (cTo_length ks k)
    have HBD := hide (cTo_bd ks k)
    have HD := hide (hown.at (fun x hx => by have := cTo_bd ks k x hx; exact ⟨rfl, by omega, by omega⟩) (by rw [cTo_length]; omega))
    clear hg hown hblN
    by_cases hlt : k < ks.length
    case neg =>
      have e : k = ks.length := by omega
      subst e
      go_wp2
      go_ret
      refine ⟨_, rfl, ?_, unhide BN⟩
      have := unhide HD
      rw [unhide HWL] at this
      exact this
    obtain ⟨b, o, cs, hbo, _, hb, hcs, hc, hR⟩ := unhide HX k hlt
    subst hbo
    have hR := RClass_kept.stays _ _ _ _ _ (unhide BN) hR
    have hc : ∀ j (hj : j < cs.length), wN.cell? ⟨b, o + k * 7 + j, none⟩ = some cs[j] := fun j hj => by rw [(unhide BN).cell (p := ⟨b, _, none⟩) hb]; exact hc j hj
    obtain ⟨hm9, hi9, hin⟩ := unhide HIO k hlt
    have HNEXT : Hid (cTo ks (k + 1) = cTo ks k ++ [capC (cSum (cTo ks k) ks[k].mems.length ks[k].insts ks[k].insts.length)]) := by
      show cTo ks (k + 1) = _
      rw [cTo, List.getElem?_eq_getElem hlt]
    generalize ks[k] = nd at *
    obtain ⟨s, ins, outs, locs, mems, insts, body⟩ := nd
    obtain ⟨v1, v2, v3, v4, v5, v6, rfl, hsn, q1, q2, q3, q4, q5, q6⟩ := hR
    simp only at hsn q1 q2 q3 q4 q5 q6 hm9 hi9 hin
    obtain ⟨b1, c1, rfl⟩ := q1.shape
    obtain ⟨b2, c2, rfl⟩ := q2.shape
    obtain ⟨b3, c3, rfl⟩ := q3.shape
    obtain ⟨b4, c4, rfl⟩ := q4.shape
    obtain ⟨b5, c5, rfl⟩ := q5.shape
    obtain ⟨b6, c6, rfl⟩ := q6.shape
    have HEL : Hid (∀ q (hq : q < insts.length), ∃ ib io gi, b5 = some ⟨ib, io, none⟩ ∧ gi < k ∧ insts[q] = ((gi : Nat) : Int) ∧ ∀ w', Below wN.heap.size wN w' → w'.cell? ⟨ib, io + q, none⟩ = some (.int .i64 (gi : Int)) ∧ w'.cell? ⟨g, gi, none⟩ = some (.int .i64 ((cTo ks k).getD gi 0))) := fun q hq => by
      obtain ⟨_, _, hve, _, _, hex⟩ := q5
      simp only [Value.slice.injEq] at hve
      obtain ⟨rfl, _, rfl⟩ := hve
      obtain ⟨ib, io, cs, rfl, _, hib, _, hic, ⟨rfl, _⟩⟩ := hex q hq
      obtain ⟨gi, hgi⟩ := Int.eq_ofNat_of_zero_le (hin q hq).1
      have hgk : gi < k := by have := (hin q hq).2; omega
      refine ⟨ib, io, gi, rfl, hgk, hgi, fun w' hb' => ⟨?_, ?_⟩⟩
      · rw [hb'.cell (p := ⟨ib, _, none⟩) hib]
        have h0 := hic 0 (by simp)
        rw [Nat.mul_one, Nat.add_zero] at h0
        rw [h0, ← hgi]
        rfl
      · obtain ⟨a8, c8, hv8, _, _, hx8⟩ := unhide HD
        simp only [Value.slice.injEq] at hv8
        obtain ⟨rfl, _, rfl⟩ := hv8
        obtain ⟨jb, jo, js, hjb, _, hjl, _, hjc, ⟨rfl, _⟩⟩ := hx8 gi (by rw [unhide HWL]; exact hgk)
        simp only [Option.some.injEq, Addr.mk.injEq] at hjb
        obtain ⟨rfl, rfl, _⟩ := hjb
        rw [hb'.cell (p := ⟨g, _, none⟩) hjl]
        have h0 := hjc 0 (by simp)
        rw [Nat.mul_one, Nat.add_zero, Nat.zero_add] at h0
        rw [h0, List.getD_eq_getElem?_getD, List.getElem?_eq_getElem (by rw [unhide HWL]; exact hgk)]
        rfl
    have y0 := hc 0 (by simp)
    have y1 := hc 1 (by simp)
    have y2 := hc 2 (by simp)
    have y3 := hc 3 (by simp)
    have y4 := hc 4 (by simp)
    have y5 := hc 5 (by simp)
    have y6 := hc 6 (by simp)
    simp only [Nat.mul_one, Nat.add_zero, List.getElem_cons_zero, List.getElem_cons_succ] at y0 y1 y2 y3 y4 y5 y6
    simp only at HNEXT
    clear q1 q2 q3 q4 q5 q6 hc hcs hin HD HX
    have HSB := hide (fun q => cSum_bd (cTo ks k) mems.length insts (unhide HBD) q)
    go_wp2
    go_loopg [6, 23] insts.length (fun gh n i wr => ∃ (q : Nat), q ≤ insts.length ∧ gh = insts.length - q ∧ i = .int .i64 q ∧ n = .int .i64 (cSum (cTo ks k) mems.length insts q) ∧ wr = wN.alloc (.cells #[.string s, .slice b1 ins.length c1, .slice b2 outs.length c2, .slice b3 locs.length c3, .slice b4 mems.length c4, .slice b5 insts.length c5, .slice b6 body.length c6] 40))
    case atStart => exact ⟨0, Nat.zero_le _, by omega, rfl, rfl, rfl⟩
    case round =>
      obtain ⟨q, hq, hg2, rfl, rfl, hwr⟩ := hrel
      have HG2 := hide hg2
      have hba : Below wN.heap.size wN (wN.alloc (.cells #[.string s, .slice b1 ins.length c1, .slice b2 outs.length c2, .slice b3 locs.length c3, .slice b4 mems.length c4, .slice b5 insts.length c5, .slice b6 body.length c6] 40)) := (Below.refl _ _).alloc (Nat.le_refl _) _
      have hz : (wN.alloc (.cells #[.string s, .slice b1 ins.length c1, .slice b2 outs.length c2, .slice b3 locs.length c3, .slice b4 mems.length c4, .slice b5 insts.length c5, .slice b6 body.length c6] 40)).heap.size = wN.heap.size + 1 := by simp
      rw [← hwr] at hba hz
      rename World => wq
      have HBA := hide hba
      have HWR : Hid (wq = wN.alloc (.cells #[.string s, .slice b1 ins.length c1, .slice b2 outs.length c2, .slice b3 locs.length c3, .slice b4 mems.length c4, .slice b5 insts.length c5, .slice b6 body.length c6] 40)) := hwr
      clear hg2 hwr y0 y1 y2 y3 y4 y5 y6
      obtain ⟨hs1, hs2⟩ := unhide HSB q
      by_cases hltq : q < insts.length
      case neg =>
        have e : q = insts.length := by omega
        have HNX : Hid (cTo ks (k + 1) = cTo ks k ++ [capC (cSum (cTo ks k) mems.length insts q)]) := by
          show cTo ks (k + 1) = _
          rw [unhide HNEXT, e]
        have HQ := hide ((unhide HBN).trans (hba.mono hNs))
        have HOQ := hide ((unhide HOW).below hba)
        clear HNEXT hba HEL
        generalize cSum (cTo ks k) mems.length insts q = sm at *
        by_cases hgt : 20000 < sm
        · have f1 : decide (20000 < sm) = true := decide_eq_true hgt
          have e9 : capC sm = 20001 := by unfold capC; rw [if_pos hgt]
          rw [e9] at HNX
          have HOQ2 : Hid (OwnInts (wq.alloc (.cells #[.int .i64 20001] 3)) (w.heap.size + 1) g cap (cTo ks k)) := (unhide HOQ).below ((Below.refl _ _).alloc (Nat.le_refl _) _)
          have HQ2 : Hid (Below (w.heap.size + 1) _ (wq.alloc (.cells #[.int .i64 20001] 3))) := (unhide HQ).trans ((Below.refl _ _).alloc (by omega) _)
          have HZ := hide hz
          clear e9 hgt e hz
          go_wp2_with (at_builtin; go_must (refine wpList_append_oneInts _ rfl _ _ rfl (w.heap.size + 1) g cap (cTo ks k) (by rw [unhide HWL]; rfl) (unhide HOQ2) wq.heap.size 20001 rfl (by rw [World.cell?_alloc_at _ _ _ _ rfl]; rfl) (by rw [unhide HWL]; omega) (by have := unhide HZ; simp; omega) ?_))
          intro g' cap' w7 hown7 hgr7
          have B7 := grow_below (unhide HQ2) hgr7 (by have := unhide HZ; simp; omega) hgb
          rw [← unhide HNX] at hown7
          have HO7 := hide hown7
          have HB7 := hide B7
          rw [unhide HWL]
          clear hown7 hgr7 B7
          go_wp2
          go_roundg (ks.length - (k + 1))
          case measure => have := unhide HG; omega
          case rel => exact ⟨k + 1, g', cap', by omega, rfl, by go_num, rfl, unhide HO7, unhide HB7⟩
        · have f1 : decide (20000 < sm) = false := decide_eq_false hgt
          have e9 : capC sm = sm := by unfold capC; rw [if_neg hgt]
          rw [e9] at HNX
          have HOQ2 : Hid (OwnInts (wq.alloc (.cells #[.int .i64 sm] 3)) (w.heap.size + 1) g cap (cTo ks k)) := (unhide HOQ).below ((Below.refl _ _).alloc (Nat.le_refl _) _)
          have HQ2 : Hid (Below (w.heap.size + 1) _ (wq.alloc (.cells #[.int .i64 sm] 3))) := (unhide HQ).trans ((Below.refl _ _).alloc (by omega) _)
          have HZ := hide hz
          clear e9 hgt e hz
          go_wp2_with (at_builtin; go_must (refine wpList_append_oneInts _ rfl _ _ rfl (w.heap.size + 1) g cap (cTo ks k) (by rw [unhide HWL]; rfl) (unhide HOQ2) wq.heap.size sm rfl (by rw [World.cell?_alloc_at _ _ _ _ rfl]; rfl) (by rw [unhide HWL]; omega) (by have := unhide HZ; simp; omega) ?_))
          intro g' cap' w7 hown7 hgr7
          have B7 := grow_below (unhide HQ2) hgr7 (by have := unhide HZ; simp; omega) hgb
          rw [← unhide HNX] at hown7
          have HO7 := hide hown7
          have HB7 := hide B7
          rw [unhide HWL]
          clear hown7 hgr7 B7
          go_wp2
          go_roundg (ks.length - (k + 1))
          case measure => have := unhide HG; omega
          case rel => exact ⟨k + 1, g', cap', by omega, rfl, by go_num, rfl, unhide HO7, unhide HB7⟩
      obtain ⟨ib, io, gi, rfl, hgk, hgi, hcel⟩ := unhide HEL q hltq
      obtain ⟨z1, z2⟩ := hcel _ hba
      have HST : Hid (cSum (cTo ks k) mems.length insts (q + 1) = cSum (cTo ks k) mems.length insts q + (cTo ks k).getD gi 0) := by
        show cSum _ _ _ (q + 1) = _
        rw [cSum, List.getD_eq_getElem?_getD (l := insts), List.getElem?_eq_getElem hltq, Option.getD_some, hgi, Int.toNat_natCast]
      obtain ⟨hg1, hg2⟩ := getD_bd (cTo ks k) 20001 (by omega) (unhide HBD) gi
      have hltq' : (q : Int) < (insts.length : Int) := by omega
      have hgk' : (gi : Int) < (k : Int) := by omega
      clear hcel hgi HEL hba hz
      generalize (cTo ks k).getD gi 0 = gv at *
      generalize hS1 : cSum (cTo ks k) mems.length insts q = sm at *
      clear hS1
      go_wp2
      go_roundg (insts.length - (q + 1))
      case measure => have := unhide HG2; omega
      case rel => exact ⟨q + 1, by omega, rfl, by go_num, by rw [unhide HST], unhide HWR⟩

end Go.Proofs.YtmglbkndjnflkaaGreatDoor
namespace Go.Proofs.YtmglbkndjnflkaaGreatDoor
open Go.RowKit
set_option linter.unusedSimpArgs false
set_option linter.unusedVariables false

def capS (n : Int) : Int := if 400000 < n then 400001 else n
def maxS (a b : Int) : Int := if a < b then b else a
/-- What a statement tells the sum: its kind, and what its call costs. -/
def costs (insts known : List Int) (body : List DStm) : List (Int × Int) := body.map fun s => (s.kind, known.getD (insts.getD s.at_.toNat 0).toNat 0)
def sumL (rec : List (Int × Int) → Int) (ps : List (Int × Int)) : Nat → Nat → Int → Int
  | 0, _, sum => sum
  | f + 1, i, sum => match ps[i]? with
    | none => sum
    | some p =>
      if p.1 = 4 then sumL rec ps f ((partsI (ps.map Prod.fst) i).2.toNat + 1) (capS (sum + (1 + maxS (rec (subK ps (i + 1) (partsI (ps.map Prod.fst) i).1.toNat)) (rec (subK ps ((partsI (ps.map Prod.fst) i).1.toNat + 1) (partsI (ps.map Prod.fst) i).2.toNat)))))
      else if p.1 = 3 then sumL rec ps f (i + 1) (capS (sum + (1 + p.2)))
      else sumL rec ps f (i + 1) (capS (sum + 1))
def sumF : Nat → List (Int × Int) → Int
  | 0, _ => 0
  | f + 1, ps => sumL (sumF f) ps (ps.length + 1) 0 0
theorem capS_bd (n : Int) (h : 0 ≤ n) : 0 ≤ capS n ∧ capS n ≤ 400001 := by
  unfold capS
  split <;> omega
theorem maxS_bd (a b B : Int) (h1 : 0 ≤ a ∧ a ≤ B) (h2 : 0 ≤ b ∧ b ≤ B) : 0 ≤ maxS a b ∧ maxS a b ≤ B := by
  unfold maxS
  split <;> omega
theorem sumL_bd (rec : List (Int × Int) → Int) (ps : List (Int × Int)) (hp : ∀ p, p ∈ ps → 0 ≤ p.2 ∧ p.2 ≤ 400001) (hr : ∀ p q, 0 ≤ rec (subK ps p q) ∧ rec (subK ps p q) ≤ 400001) : ∀ (f i : Nat) (sum : Int), 0 ≤ sum → sum ≤ 400001 → 0 ≤ sumL rec ps f i sum ∧ sumL rec ps f i sum ≤ 400001 := by
  intro f
  induction f with
  | zero => intro i sum h1 h2; exact ⟨h1, h2⟩
  | succ f ih =>
    intro i sum h1 h2
    rw [sumL]
    split
    · exact ⟨h1, h2⟩
    · rename_i p he
      have hpp := hp p (List.mem_of_getElem? he)
      split
      · have hm := maxS_bd _ _ _ (hr (i + 1) (partsI (ps.map Prod.fst) i).1.toNat) (hr ((partsI (ps.map Prod.fst) i).1.toNat + 1) (partsI (ps.map Prod.fst) i).2.toNat)
        have hc := capS_bd (sum + (1 + maxS (rec (subK ps (i + 1) (partsI (ps.map Prod.fst) i).1.toNat)) (rec (subK ps ((partsI (ps.map Prod.fst) i).1.toNat + 1) (partsI (ps.map Prod.fst) i).2.toNat)))) (by omega)
        exact ih _ _ hc.1 hc.2
      · split
        · have hc := capS_bd (sum + (1 + p.2)) (by omega)
          exact ih _ _ hc.1 hc.2
        · have hc := capS_bd (sum + 1) (by omega)
          exact ih _ _ hc.1 hc.2
theorem sub_mem {α : Type} {ks : List α} {p q : Nat} {x : α} (h : x ∈ subK ks p q) : x ∈ ks := List.mem_of_mem_drop (List.mem_of_mem_take h)
theorem sumF_bd : ∀ (f : Nat) (ps : List (Int × Int)), (∀ p, p ∈ ps → 0 ≤ p.2 ∧ p.2 ≤ 400001) → 0 ≤ sumF f ps ∧ sumF f ps ≤ 400001 := by
  intro f
  induction f with
  | zero => intro ps _; exact ⟨Int.le_refl _, by simp [sumF]⟩
  | succ f ih =>
    intro ps h
    exact sumL_bd (sumF f) ps h (fun p q => ih _ (fun x hx => h x (sub_mem hx))) _ _ _ (Int.le_refl _) (by omega)
theorem costs_fst (insts known : List Int) (body : List DStm) : (costs insts known body).map Prod.fst = kindsOf body := by
  unfold costs kindsOf
  rw [List.map_map]
  rfl
theorem costs_bd (insts known : List Int) (body : List DStm) (h : ∀ x, x ∈ known → 0 ≤ x ∧ x ≤ 400001) : ∀ p, p ∈ costs insts known body → 0 ≤ p.2 ∧ p.2 ≤ 400001 := by
  intro p hp
  unfold costs at hp
  rw [List.mem_map] at hp
  obtain ⟨s, _, rfl⟩ := hp
  exact getD_bd known 400001 (by omega) h _
theorem sumL_step (rec : List (Int × Int) → Int) (insts known : List Int) (body : List DStm) (f i : Nat) (sum : Int) (hi : i < body.length) : sumL rec (costs insts known body) (f + 1) i sum =
    (if body[i].kind = 4 then sumL rec (costs insts known body) f ((partsI (kindsOf body) i).2.toNat + 1) (capS (sum + (1 + maxS (rec (subK (costs insts known body) (i + 1) (partsI (kindsOf body) i).1.toNat)) (rec (subK (costs insts known body) ((partsI (kindsOf body) i).1.toNat + 1) (partsI (kindsOf body) i).2.toNat)))))
      else if body[i].kind = 3 then sumL rec (costs insts known body) f (i + 1) (capS (sum + (1 + known.getD (insts.getD body[i].at_.toNat 0).toNat 0)))
      else sumL rec (costs insts known body) f (i + 1) (capS (sum + 1))) := by
  rw [sumL]
  have e : (costs insts known body)[i]? = some (body[i].kind, known.getD (insts.getD body[i].at_.toNat 0).toNat 0) := by
    unfold costs
    rw [List.getElem?_map, List.getElem?_eq_getElem hi]
    rfl
  rw [e, costs_fst]
theorem sumL_end (rec : List (Int × Int) → Int) (insts known : List Int) (body : List DStm) (f : Nat) (sum : Int) : sumL rec (costs insts known body) f body.length sum = sum := by
  cases f with
  | zero => rfl
  | succ f =>
    have e : (costs insts known body)[body.length]? = none := by unfold costs; simp
    rw [sumL, e]
/-- What the checks say of the calls of a body. -/
def CallsOK (insts known : List Int) (body : List DStm) : Prop := ∀ s, s ∈ body → s.kind = 3 → ∃ ia gi : Nat, s.at_ = (ia : Int) ∧ ia < insts.length ∧ insts.getD ia 0 = (gi : Int) ∧ gi < known.length

set_option maxRecDepth 20000 in
set_option maxHeartbeats 4000000 in
theorem l3Sum_ok (nm : ByteArray) (insts known : List Int) (b1 b2 b3 b4 b5 b6 bk : Option Addr) (n1 n2 n3 n4 n6 c1 c2 c3 c4 c5 c6 ck : Nat) (hkb : ∀ x, x ∈ known → 0 ≤ x ∧ x ≤ 400001) : ∀ (f : Nat) (body : List DStm) (v : Value) (depth : Int) (w : World), SlAt 6 104 RStm 0 w v body → SlAt 1 8 RInt 0 w (.slice b5 insts.length c5) insts → SlAt 1 8 RInt 0 w (.slice bk known.length ck) known → CallsOK insts known body → body.length < f → nestF f (kindsOf body) depth = true →
    Calls Tryz.prog 44 #[.agg #[.string nm, .slice b1 n1 c1, .slice b2 n2 c2, .slice b3 n3 c3, .slice b4 n4 c4, .slice b5 insts.length c5, .slice b6 n6 c6], v, .slice bk known.length ck] w fun e w' => e = .returned (.int .i64 (sumF f (costs insts known body))) ∧ Below w.heap.size w w' := by
  intro f
  induction f with
  | zero => intro body v depth w _ _ _ _ h; omega
  | succ f ih =>
    intro body v depth w hv hI hK hcal hlf hnest
    have HPT := hide (fun i (hi : i ≤ body.length) w' (hb : Below w.heap.size w w') => l3Parts_ok body v i w' (hv.stays RStm_kept hb) hi)
    have hkl : (kindsOf body).length = body.length := by unfold kindsOf; simp
    have HV := hide hv
    have HII := hide hI
    have HKK := hide hK
    have HCAL := hide hcal
    obtain ⟨a, cap, rfl, ⟨_, hcap⟩, hn, hx⟩ := hv
    unfold Len at hn
    have HX := hide hx
    have li := hI.lenM
    have lk := hK.lenM
    have HR : Hid (sumF (f + 1) (costs insts known body) = sumL (sumF f) (costs insts known body) (body.length + 1) 0 0) := by
      show sumF (f + 1) (costs insts known body) = _
      rw [sumF]
      unfold costs
      rw [List.length_map]
    have HNE : Hid (nestL (nestF f) (kindsOf body) depth (body.length + 1) 0 = true) := by
      show _ = true
      rw [nestF, hkl] at hnest
      exact hnest
    have HK := hide (fun j (hj : j < body.length) => kinds_at body j hj)
    have HSN := hide (fun g i (hi : i < body.length) => by
      have h := nestL_step (nestF f) (kindsOf body) depth g i (by rw [hkl]; exact hi)
      rw [unhide HK i hi] at h
      exact h)
    have HST := hide (fun g i sum (hi : i < body.length) => sumL_step (sumF f) insts known body g i sum hi)
    have HEN := hide (fun g sum => sumL_end (sumF f) insts known body g sum)
    have HPB := hide (fun i (hi : i < body.length) (h4 : body[i].kind = 4) h1 h2 => by
      have h := parts_bd (kindsOf body) i (by rw [hkl]; exact hi) (by rw [unhide HK i hi]; exact h4) h1 h2
      rw [hkl] at h
      exact h)
    have hA : Below w.heap.size w (w.alloc (.cells #[.string nm, .slice b1 n1 c1, .slice b2 n2 c2, .slice b3 n3 c3, .slice b4 n4 c4, .slice b5 insts.length c5, .slice b6 n6 c6] 40)) := (Below.refl _ _).alloc (Nat.le_refl _) _
    have hBK : BlkAt (w.alloc (.cells #[.string nm, .slice b1 n1 c1, .slice b2 n2 c2, .slice b3 n3 c3, .slice b4 n4 c4, .slice b5 insts.length c5, .slice b6 n6 c6] 40)) w.heap.size 40 #[.string nm, .slice b1 n1 c1, .slice b2 n2 c2, .slice b3 n3 c3, .slice b4 n4 c4, .slice b5 insts.length c5, .slice b6 n6 c6] := blk_box w #[.string nm, .slice b1 n1 c1, .slice b2 n2 c2, .slice b3 n3 c3, .slice b4 n4 c4, .slice b5 insts.length c5, .slice b6 n6 c6] 40
    obtain ⟨BX, hBX⟩ : ∃ BX : World → Prop, ∀ w', BX w' ↔ Below (w.heap.size + 1) (w.alloc (.cells #[.string nm, .slice b1 n1 c1, .slice b2 n2 c2, .slice b3 n3 c3, .slice b4 n4 c4, .slice b5 insts.length c5, .slice b6 n6 c6] 40)) w' := ⟨_, fun _ => Iff.rfl⟩
    have hAz : (w.alloc (.cells #[.string nm, .slice b1 n1 c1, .slice b2 n2 c2, .slice b3 n3 c3, .slice b4 n4 c4, .slice b5 insts.length c5, .slice b6 n6 c6] 40)).heap.size = w.heap.size + 1 := by simp
    have HX1 : Hid (∀ w1, BX w1 → Below w.heap.size w w1) := fun w1 h => hA.trans (((hBX w1).1 h).mono (by omega))
    have HX2 : Hid (∀ w1 w2, BX w1 → Below w1.heap.size w1 w2 → BX w2) := fun w1 w2 h h2 => (hBX w2).2 (((hBX w1).1 h).trans (h2.mono (by have := ((hBX w1).1 h).size; omega)))
    have HX4 : Hid (∀ w1, BX w1 → w1.cell? ⟨w.heap.size, 0, none⟩ = some (.string nm) ∧ w1.cell? ⟨w.heap.size, 1, none⟩ = some (.slice b1 n1 c1) ∧ w1.cell? ⟨w.heap.size, 2, none⟩ = some (.slice b2 n2 c2) ∧ w1.cell? ⟨w.heap.size, 3, none⟩ = some (.slice b3 n3 c3) ∧ w1.cell? ⟨w.heap.size, 4, none⟩ = some (.slice b4 n4 c4) ∧ w1.cell? ⟨w.heap.size, 5, none⟩ = some (.slice b5 insts.length c5) ∧ w1.cell? ⟨w.heap.size, 6, none⟩ = some (.slice b6 n6 c6)) := fun w1 h => ⟨(hBK.below ((hBX w1).1 h) (by omega)).cell (i := 0) (v := .string nm) rfl, (hBK.below ((hBX w1).1 h) (by omega)).cell (i := 1) (v := .slice b1 n1 c1) rfl, (hBK.below ((hBX w1).1 h) (by omega)).cell (i := 2) (v := .slice b2 n2 c2) rfl, (hBK.below ((hBX w1).1 h) (by omega)).cell (i := 3) (v := .slice b3 n3 c3) rfl, (hBK.below ((hBX w1).1 h) (by omega)).cell (i := 4) (v := .slice b4 n4 c4) rfl, (hBK.below ((hBX w1).1 h) (by omega)).cell (i := 5) (v := .slice b5 insts.length c5) rfl, (hBK.below ((hBX w1).1 h) (by omega)).cell (i := 6) (v := .slice b6 n6 c6) rfl⟩
    have HX0 : Hid (BX (w.alloc (.cells #[.string nm, .slice b1 n1 c1, .slice b2 n2 c2, .slice b3 n3 c3, .slice b4 n4 c4, .slice b5 insts.length c5, .slice b6 n6 c6] 40))) := (hBX _).2 (Below.refl _ _)
    have HIH : Hid (∀ p q b o, a = some ⟨b, o, none⟩ → p ≤ q → q ≤ body.length → 0 < p → nestF f (subK (kindsOf body) p q) (depth + 1) = true → ∀ w0, BX w0 → Calls Tryz.prog 44 #[.agg #[.string nm, .slice b1 n1 c1, .slice b2 n2 c2, .slice b3 n3 c3, .slice b4 n4 c4, .slice b5 insts.length c5, .slice b6 n6 c6], .slice (some ⟨b, o + p * 6, none⟩) (q - p) (cap - p), .slice bk known.length ck] w0.drew fun e w' => e = .returned (.int .i64 (sumF f (subK (costs insts known body) p q))) ∧ BX w' ∧ w'.cell? ⟨w.heap.size, 0, none⟩ = some (.string nm) ∧ w'.cell? ⟨w.heap.size, 1, none⟩ = some (.slice b1 n1 c1) ∧ w'.cell? ⟨w.heap.size, 2, none⟩ = some (.slice b2 n2 c2) ∧ w'.cell? ⟨w.heap.size, 3, none⟩ = some (.slice b3 n3 c3) ∧ w'.cell? ⟨w.heap.size, 4, none⟩ = some (.slice b4 n4 c4) ∧ w'.cell? ⟨w.heap.size, 5, none⟩ = some (.slice b5 insts.length c5) ∧ w'.cell? ⟨w.heap.size, 6, none⟩ = some (.slice b6 n6 c6)) := fun p q b o ha hp hq h0 hne w0 hb0 => by
      subst ha
      have hdr := unhide HX2 _ _ hb0 (Below.refl _ w0).drew
      have hbw := unhide HX1 _ hdr
      have hs := ((unhide HV).stays RStm_kept hbw).sub p q hp hq
      have hl := subK_len body p q hp hq
      have e : kindsOf (subK body p q) = subK (kindsOf body) p q := subK_map _ _ _ _
      have e2 : costs insts known (subK body p q) = subK (costs insts known body) p q := subK_map _ _ _ _
      have h := ih (subK body p q) _ (depth + 1) w0.drew hs ((unhide HII).stays RInt_kept hbw) ((unhide HKK).stays RInt_kept hbw) (fun s hs => unhide HCAL s (sub_mem hs)) (by omega) (by rw [e]; exact hne)
      rw [e2] at h
      refine h.mono ?_
      rintro e w' ⟨rfl, hb'⟩
      have hx' := unhide HX2 _ _ hdr hb'
      exact ⟨rfl, hx', unhide HX4 _ hx'⟩
    have HCO : Hid (∀ i (hi : i < body.length), body[i].kind = 3 → ∃ ia gi ib io kb ko, body[i].at_ = ((ia : Nat) : Int) ∧ ia < insts.length ∧ gi < known.length ∧ known.getD (insts.getD body[i].at_.toNat 0).toNat 0 = known.getD gi 0 ∧ b5 = some ⟨ib, io, none⟩ ∧ bk = some ⟨kb, ko, none⟩ ∧ ∀ w', BX w' → w'.cell? ⟨ib, io + ia, none⟩ = some (.int .i64 ((gi : Nat) : Int)) ∧ w'.cell? ⟨kb, ko + gi, none⟩ = some (.int .i64 (known.getD gi 0))) := fun i hi h3 => by
      obtain ⟨ia, gi, e1, e2, e3, e4⟩ := unhide HCAL body[i] (List.getElem_mem hi) h3
      obtain ⟨_, _, hv1, _, _, hx1⟩ := unhide HII
      simp only [Value.slice.injEq] at hv1
      obtain ⟨rfl, _, rfl⟩ := hv1
      obtain ⟨ib, io, _, rfl, _, hib, _, hic, ⟨rfl, _⟩⟩ := hx1 ia e2
      obtain ⟨_, _, hv2, _, _, hx2⟩ := unhide HKK
      simp only [Value.slice.injEq] at hv2
      obtain ⟨rfl, _, rfl⟩ := hv2
      obtain ⟨kb, ko, _, rfl, _, hkb', _, hkc, ⟨rfl, _⟩⟩ := hx2 gi e4
      have e5 : insts[ia] = (gi : Int) := by
        rw [List.getD_eq_getElem?_getD, List.getElem?_eq_getElem e2] at e3
        exact e3
      refine ⟨ia, gi, ib, io, kb, ko, e1, e2, e4, by rw [e1, Int.toNat_natCast, e3, Int.toNat_natCast], rfl, rfl, fun w' hb' => ⟨?_, ?_⟩⟩
      · rw [(unhide HX1 _ hb').cell (p := ⟨ib, _, none⟩) hib]
        have h0 := hic 0 (by simp)
        rw [Nat.mul_one, Nat.add_zero] at h0
        rw [h0, ← e5]
        rfl
      · rw [(unhide HX1 _ hb').cell (p := ⟨kb, _, none⟩) hkb']
        have h0 := hkc 0 (by simp)
        rw [Nat.mul_one, Nat.add_zero] at h0
        rw [h0, List.getD_eq_getElem?_getD, List.getElem?_eq_getElem e4]
        rfl
    have HSB := hide (fun p q => sumF_bd f (subK (costs insts known body) p q) (fun x hx => costs_bd insts known body hkb x (sub_mem hx)))
    have HGB := hide (fun i => getD_bd known 400001 (by omega) hkb i)
    clear hx hkl ih HV HK hA hBK hBX hAz HII HKK HCAL hI hK hcal hnest hkb
    generalize sumF (f + 1) (costs insts known body) = R at *
    generalize costs insts known body = ps at *
    generalize kindsOf body = ks at *
    go_enter Tryz.func44, Tryz.ntmps44
    go_wp2
    go_loopg [7, 8] (body.length) (fun g sv iv wr => ∃ (i fu : Nat) (sum : Int), i ≤ body.length ∧ g = body.length - i ∧ iv = .int .i64 i ∧ sv = .int .i64 sum ∧ body.length < fu + i ∧ 0 ≤ sum ∧ sum ≤ 400001 ∧ R = sumL (sumF f) ps fu i sum ∧ nestL (nestF f) ks depth fu i = true ∧ BX wr)
    case atStart => exact ⟨0, body.length + 1, 0, Nat.zero_le _, by omega, rfl, rfl, by omega, by omega, by omega, unhide HR, unhide HNE, unhide HX0⟩
    case round =>
      obtain ⟨i, fu, sum, hi, hg, rfl, rfl, hfu, hs1, hs2, hR, hN, hbx⟩ := hrel
      rename World => wr
      have HG := hide hg
      have HRR := hide hR
      have HNN := hide hN
      have HBX := hide hbx
      clear hg hR hN
      by_cases hlt : i < body.length
      case neg =>
        have e : i = body.length := by omega
        subst e
        have HF := hide ((unhide HRR).trans (unhide HEN fu sum))
        have HB := hide (unhide HX1 _ hbx)
        go_wp2
        go_ret
        exact ⟨by rw [unhide HF]; rfl, unhide HB⟩
      obtain ⟨b, o, cs, hbo, _, hb, hcs, hc, ⟨q1, q2, q3, rfl, -⟩⟩ := unhide HX i hlt
      have HAB := hide hbo
      have r0 := hc 0 (by simp)
      have r2 := hc 2 (by simp)
      simp only [Nat.add_zero, List.getElem_cons_zero, List.getElem_cons_succ] at r0 r2
      rw [← (unhide HX1 _ hbx).cell (p := ⟨b, _, none⟩) hb] at r0 r2
      obtain ⟨k0, k1, k2, k3, k4, k5, k6⟩ := unhide HX4 _ hbx
      obtain ⟨fu', rfl⟩ : ∃ fu', fu = fu' + 1 := ⟨fu - 1, by omega⟩
      have HS := hide ((unhide HRR).trans (unhide HST fu' i sum hlt))
      have hnn := unhide HNN
      rw [unhide HSN fu' i hlt] at hnn
      have HPB1 := hide (unhide HPB i hlt)
      have HPT1 := hide (unhide HPT i hi _ (unhide HX1 _ hbx))
      have HI2 := hide (fun p q => unhide HIH p q b o (unhide HAB))
      have HCO1 := hide (unhide HCO i hlt)
      subst hbo
      have hlt' : (i : Int) < (body.length : Int) := by omega
      clear hc hcs HRR HNN hbx
      generalize body[i].kind = kd at *
      generalize body[i].at_ = av at *
      by_cases h56 : kd = 5 ∨ kd = 6
      · rw [if_pos h56] at hnn
        cases hnn
      rw [if_neg h56] at hnn
      by_cases h4 : kd = 4
      case neg =>
        rw [if_neg h4] at hnn
        have HNX := hide hnn
        have hS := unhide HS
        rw [if_neg h4] at hS
        have y4 : (kd == 4) = false := by rw [beq_eq_false_iff_ne]; omega
        clear HS hnn h56 h4 HPB1 HPT1 HI2
        by_cases h3 : kd = 3
        · rw [if_pos h3] at hS
          have y3 : (kd == 3) = true := by simp [h3]
          obtain ⟨ia, gi, ib, io, kb, ko, rfl, hia, hgi, heq, rfl, rfl, hce⟩ := unhide HCO1 h3
          rw [heq] at hS
          have HS := hide hS
          obtain ⟨u1, u2⟩ := hce _ (unhide HBX)
          obtain ⟨v1, v2⟩ := unhide HGB gi
          have hia' : (ia : Int) < (insts.length : Int) := by omega
          have hgi' : (gi : Int) < (known.length : Int) := by omega
          clear hS h3 hce heq HCO1 HCO HIH
          generalize known.getD gi 0 = gv at *
          have HQn : Hid (∀ n, BX (wr.drewN n)) := fun n => unhide HX2 _ _ (unhide HBX) ⟨rfl, rfl, rfl, Nat.le_refl _, fun _ _ => rfl⟩
          by_cases hgt : 400000 < sum + (1 + gv)
          · have f9 : decide (400000 < sum + (1 + gv)) = true := decide_eq_true hgt
            have HF : Hid (R = sumL (sumF f) ps fu' (i + 1) 400001) := (unhide HS).trans (by unfold capS; rw [if_pos hgt])
            clear HS hgt
            go_wp2_with fail
            go_quiet ((fail))
            go_wp2
            go_roundg (body.length - (i + 1))
            case measure => have := unhide HG; omega
            case rel => exact ⟨i + 1, fu', 400001, by omega, rfl, by go_num, rfl, by omega, by omega, by omega, unhide HF, unhide HNX, unhide HQn _⟩
          · have f9 : decide (400000 < sum + (1 + gv)) = false := decide_eq_false hgt
            have HF : Hid (R = sumL (sumF f) ps fu' (i + 1) (sum + (1 + gv))) := (unhide HS).trans (by unfold capS; rw [if_neg hgt])
            clear HS
            go_wp2_with fail
            go_quiet ((fail))
            go_wp2
            go_roundg (body.length - (i + 1))
            case measure => have := unhide HG; omega
            case rel => exact ⟨i + 1, fu', sum + (1 + gv), by omega, rfl, by go_num, rfl, by omega, by omega, by omega, unhide HF, unhide HNX, unhide HQn _⟩
        · rw [if_neg h3] at hS
          have y3 : (kd == 3) = false := by simp [h3]
          have HS := hide hS
          clear hS h3 HCO1 HCO HIH
          by_cases hgt : 400000 < sum + 1
          · have f9 : decide (400000 < sum + 1) = true := decide_eq_true hgt
            have HF : Hid (R = sumL (sumF f) ps fu' (i + 1) 400001) := (unhide HS).trans (by unfold capS; rw [if_pos hgt])
            clear HS hgt
            go_wp2
            go_roundg (body.length - (i + 1))
            case measure => have := unhide HG; omega
            case rel => exact ⟨i + 1, fu', 400001, by omega, rfl, by go_num, rfl, by omega, by omega, by omega, unhide HF, unhide HNX, unhide HBX⟩
          · have f9 : decide (400000 < sum + 1) = false := decide_eq_false hgt
            have HF : Hid (R = sumL (sumF f) ps fu' (i + 1) (sum + 1)) := (unhide HS).trans (by unfold capS; rw [if_neg hgt])
            clear HS
            go_wp2
            go_roundg (body.length - (i + 1))
            case measure => have := unhide HG; omega
            case rel => exact ⟨i + 1, fu', sum + 1, by omega, rfl, by go_num, rfl, by omega, by omega, by omega, unhide HF, unhide HNX, unhide HBX⟩
      rw [if_pos h4] at hnn
      have y4 : (kd == 4) = true := by simp [h4]
      have HPB2 := hide (unhide HPB1 h4)
      have hS := unhide HS
      rw [if_pos h4] at hS
      clear HS HPB1 h56 h4 HCO1 HCO
      generalize partsI ks i = pp at *
      obtain ⟨po, pe⟩ := pp
      simp only at hS hnn HPB2 HPT1
      by_cases hneg : po < 0 ∨ pe < 0
      · rw [if_pos hneg] at hnn
        cases hnn
      rw [if_neg hneg] at hnn
      have hpb := unhide HPB2 (by omega) (by omega)
      obtain ⟨pn, rfl⟩ := Int.eq_ofNat_of_zero_le (show 0 ≤ po by omega)
      obtain ⟨en, rfl⟩ := Int.eq_ofNat_of_zero_le (show 0 ≤ pe by omega)
      simp only [Int.toNat_natCast] at hS hnn
      split at hnn
      · cases hnn
      split at hnn
      · cases hnn
      rename_i hne1
      split at hnn
      · cases hnn
      rename_i hne2
      rw [Bool.not_eq_false] at hne1 hne2
      have HC1 := hide (unhide HI2 (i + 1) pn (by omega) (by omega) (by omega) hne1 wr (unhide HBX))
      have HC2 := hide (fun w0 hb0 => unhide HI2 (pn + 1) en (by omega) (by omega) (by omega) hne2 w0 hb0)
      have HNX := hide hnn
      have g1 : (0 : Int) ≤ (i : Int) + 1 := by omega
      have g2 : (i : Int) + 1 ≤ (pn : Int) := by omega
      have g3 : (pn : Int) ≤ (cap : Int) := by omega
      have g4 : (0 : Int) ≤ (pn : Int) + 1 := by omega
      have g5 : (pn : Int) + 1 ≤ (en : Int) := by omega
      have g6 : (en : Int) ≤ (cap : Int) := by omega
      have wr1 : IntKind.i64.wrap ((i : Int) + 1) = (i : Int) + 1 := by rw [IntKind.wrap_i64]; omega
      have wr2 : IntKind.i64.wrap ((pn : Int) + 1) = (pn : Int) + 1 := by rw [IntKind.wrap_i64]; omega
      have cn1 : ¬ cap = i + 1 := by omega
      have cn2 : ¬ cap = pn + 1 := by omega
      have hnb : i + 1 ≤ pn ∧ pn + 1 ≤ en ∧ en < body.length := by omega
      obtain ⟨t1, t2⟩ := unhide HSB (i + 1) pn
      obtain ⟨t3, t4⟩ := unhide HSB (pn + 1) en
      have HS := hide hS
      clear HPB2 HI2 hneg hpb hne1 hne2 hnn hS HIH HSB HPT HPB r2
      generalize sumF f (subK ps (i + 1) pn) = v1 at *
      generalize sumF f (subK ps (pn + 1) en) = v2 at *
      by_cases hv12 : v1 < v2
      · have e5 : decide (v1 < v2) = true := decide_eq_true hv12
        have e6 : maxS v1 v2 = v2 := by unfold maxS; rw [if_pos hv12]
        rw [e6] at HS
        clear e6
        by_cases hgt : 400000 < sum + (1 + v2)
        · have f9 : decide (400000 < sum + (1 + v2)) = true := decide_eq_true hgt
          have HF : Hid (R = sumL (sumF f) ps fu' (en + 1) 400001) := (unhide HS).trans (by unfold capS; rw [if_pos hgt])
          clear HS hgt
          go_wp2_with fail
          refine (unhide HPT1).mono ?_
          rintro e w9 ⟨rfl, h9⟩
          obtain rfl := h9.symm
          clear h9
          clear HPT1 HST HEN HSN HX HR HNE HGB HX0 r0 y4
          go_wp2_with fail
          go_region_held3 (fun w' => w'.cell? ⟨w.heap.size, 0, none⟩ = some (.string nm) ∧ w'.cell? ⟨w.heap.size, 1, none⟩ = some (.slice b1 n1 c1) ∧ w'.cell? ⟨w.heap.size, 2, none⟩ = some (.slice b2 n2 c2) ∧ w'.cell? ⟨w.heap.size, 3, none⟩ = some (.slice b3 n3 c3) ∧ w'.cell? ⟨w.heap.size, 4, none⟩ = some (.slice b4 n4 c4) ∧ w'.cell? ⟨w.heap.size, 5, none⟩ = some (.slice b5 insts.length c5) ∧ w'.cell? ⟨w.heap.size, 6, none⟩ = some (.slice b6 n6 c6)) (go_keep) (first | (go_at_call 44; refine (unhide HC1).mono ?_; rintro e w8 ⟨rfl, hBm, m0, m1, m2, m3, m4, m5, m6⟩))
          have HC3 := hide (unhide HC2 w8 hBm)
          clear HC2 HC1
          go_wp2_with fail
          go_region_held3 (fun w' => w'.cell? ⟨w.heap.size, 0, none⟩ = some (.string nm) ∧ w'.cell? ⟨w.heap.size, 1, none⟩ = some (.slice b1 n1 c1) ∧ w'.cell? ⟨w.heap.size, 2, none⟩ = some (.slice b2 n2 c2) ∧ w'.cell? ⟨w.heap.size, 3, none⟩ = some (.slice b3 n3 c3) ∧ w'.cell? ⟨w.heap.size, 4, none⟩ = some (.slice b4 n4 c4) ∧ w'.cell? ⟨w.heap.size, 5, none⟩ = some (.slice b5 insts.length c5) ∧ w'.cell? ⟨w.heap.size, 6, none⟩ = some (.slice b6 n6 c6)) (go_keep) (first | (go_at_call 44; refine (unhide HC3).mono ?_; rintro e w7 ⟨rfl, hBl, l0, l1, l2, l3, l4, l5, l6⟩))
          have HBL := hide hBl
          go_wp2
          go_roundg (body.length - (en + 1))
          case measure => have := unhide HG; omega
          case rel => exact ⟨en + 1, fu', 400001, by omega, rfl, by go_num, rfl, by omega, by omega, by omega, unhide HF, unhide HNX, unhide HBL⟩
        · have f9 : decide (400000 < sum + (1 + v2)) = false := decide_eq_false hgt
          have HF : Hid (R = sumL (sumF f) ps fu' (en + 1) (sum + (1 + v2))) := (unhide HS).trans (by unfold capS; rw [if_neg hgt])
          clear HS
          go_wp2_with fail
          refine (unhide HPT1).mono ?_
          rintro e w9 ⟨rfl, h9⟩
          obtain rfl := h9.symm
          clear h9
          clear HPT1 HST HEN HSN HX HR HNE HGB HX0 r0 y4
          go_wp2_with fail
          go_region_held3 (fun w' => w'.cell? ⟨w.heap.size, 0, none⟩ = some (.string nm) ∧ w'.cell? ⟨w.heap.size, 1, none⟩ = some (.slice b1 n1 c1) ∧ w'.cell? ⟨w.heap.size, 2, none⟩ = some (.slice b2 n2 c2) ∧ w'.cell? ⟨w.heap.size, 3, none⟩ = some (.slice b3 n3 c3) ∧ w'.cell? ⟨w.heap.size, 4, none⟩ = some (.slice b4 n4 c4) ∧ w'.cell? ⟨w.heap.size, 5, none⟩ = some (.slice b5 insts.length c5) ∧ w'.cell? ⟨w.heap.size, 6, none⟩ = some (.slice b6 n6 c6)) (go_keep) (first | (go_at_call 44; refine (unhide HC1).mono ?_; rintro e w8 ⟨rfl, hBm, m0, m1, m2, m3, m4, m5, m6⟩))
          have HC3 := hide (unhide HC2 w8 hBm)
          clear HC2 HC1
          go_wp2_with fail
          go_region_held3 (fun w' => w'.cell? ⟨w.heap.size, 0, none⟩ = some (.string nm) ∧ w'.cell? ⟨w.heap.size, 1, none⟩ = some (.slice b1 n1 c1) ∧ w'.cell? ⟨w.heap.size, 2, none⟩ = some (.slice b2 n2 c2) ∧ w'.cell? ⟨w.heap.size, 3, none⟩ = some (.slice b3 n3 c3) ∧ w'.cell? ⟨w.heap.size, 4, none⟩ = some (.slice b4 n4 c4) ∧ w'.cell? ⟨w.heap.size, 5, none⟩ = some (.slice b5 insts.length c5) ∧ w'.cell? ⟨w.heap.size, 6, none⟩ = some (.slice b6 n6 c6)) (go_keep) (first | (go_at_call 44; refine (unhide HC3).mono ?_; rintro e w7 ⟨rfl, hBl, l0, l1, l2, l3, l4, l5, l6⟩))
          have HBL := hide hBl
          go_wp2
          go_roundg (body.length - (en + 1))
          case measure => have := unhide HG; omega
          case rel => exact ⟨en + 1, fu', sum + (1 + v2), by omega, rfl, by go_num, rfl, by omega, by omega, by omega, unhide HF, unhide HNX, unhide HBL⟩
      · have e5 : decide (v1 < v2) = false := decide_eq_false hv12
        have e6 : maxS v1 v2 = v1 := by unfold maxS; rw [if_neg hv12]
        rw [e6] at HS
        clear e6
        by_cases hgt : 400000 < sum + (1 + v1)
        · have f9 : decide (400000 < sum + (1 + v1)) = true := decide_eq_true hgt
          have HF : Hid (R = sumL (sumF f) ps fu' (en + 1) 400001) := (unhide HS).trans (by unfold capS; rw [if_pos hgt])
          clear HS hgt
          go_wp2_with fail
          refine (unhide HPT1).mono ?_
          rintro e w9 ⟨rfl, h9⟩
          obtain rfl := h9.symm
          clear h9
          clear HPT1 HST HEN HSN HX HR HNE HGB HX0 r0 y4
          go_wp2_with fail
          go_region_held3 (fun w' => w'.cell? ⟨w.heap.size, 0, none⟩ = some (.string nm) ∧ w'.cell? ⟨w.heap.size, 1, none⟩ = some (.slice b1 n1 c1) ∧ w'.cell? ⟨w.heap.size, 2, none⟩ = some (.slice b2 n2 c2) ∧ w'.cell? ⟨w.heap.size, 3, none⟩ = some (.slice b3 n3 c3) ∧ w'.cell? ⟨w.heap.size, 4, none⟩ = some (.slice b4 n4 c4) ∧ w'.cell? ⟨w.heap.size, 5, none⟩ = some (.slice b5 insts.length c5) ∧ w'.cell? ⟨w.heap.size, 6, none⟩ = some (.slice b6 n6 c6)) (go_keep) (first | (go_at_call 44; refine (unhide HC1).mono ?_; rintro e w8 ⟨rfl, hBm, m0, m1, m2, m3, m4, m5, m6⟩))
          have HC3 := hide (unhide HC2 w8 hBm)
          clear HC2 HC1
          go_wp2_with fail
          go_region_held3 (fun w' => w'.cell? ⟨w.heap.size, 0, none⟩ = some (.string nm) ∧ w'.cell? ⟨w.heap.size, 1, none⟩ = some (.slice b1 n1 c1) ∧ w'.cell? ⟨w.heap.size, 2, none⟩ = some (.slice b2 n2 c2) ∧ w'.cell? ⟨w.heap.size, 3, none⟩ = some (.slice b3 n3 c3) ∧ w'.cell? ⟨w.heap.size, 4, none⟩ = some (.slice b4 n4 c4) ∧ w'.cell? ⟨w.heap.size, 5, none⟩ = some (.slice b5 insts.length c5) ∧ w'.cell? ⟨w.heap.size, 6, none⟩ = some (.slice b6 n6 c6)) (go_keep) (first | (go_at_call 44; refine (unhide HC3).mono ?_; rintro e w7 ⟨rfl, hBl, l0, l1, l2, l3, l4, l5, l6⟩))
          have HBL := hide hBl
          go_wp2
          go_roundg (body.length - (en + 1))
          case measure => have := unhide HG; omega
          case rel => exact ⟨en + 1, fu', 400001, by omega, rfl, by go_num, rfl, by omega, by omega, by omega, unhide HF, unhide HNX, unhide HBL⟩
        · have f9 : decide (400000 < sum + (1 + v1)) = false := decide_eq_false hgt
          have HF : Hid (R = sumL (sumF f) ps fu' (en + 1) (sum + (1 + v1))) := (unhide HS).trans (by unfold capS; rw [if_neg hgt])
          clear HS
          go_wp2_with fail
          refine (unhide HPT1).mono ?_
          rintro e w9 ⟨rfl, h9⟩
          obtain rfl := h9.symm
          clear h9
          clear HPT1 HST HEN HSN HX HR HNE HGB HX0 r0 y4
          go_wp2_with fail
          go_region_held3 (fun w' => w'.cell? ⟨w.heap.size, 0, none⟩ = some (.string nm) ∧ w'.cell? ⟨w.heap.size, 1, none⟩ = some (.slice b1 n1 c1) ∧ w'.cell? ⟨w.heap.size, 2, none⟩ = some (.slice b2 n2 c2) ∧ w'.cell? ⟨w.heap.size, 3, none⟩ = some (.slice b3 n3 c3) ∧ w'.cell? ⟨w.heap.size, 4, none⟩ = some (.slice b4 n4 c4) ∧ w'.cell? ⟨w.heap.size, 5, none⟩ = some (.slice b5 insts.length c5) ∧ w'.cell? ⟨w.heap.size, 6, none⟩ = some (.slice b6 n6 c6)) (go_keep) (first | (go_at_call 44; refine (unhide HC1).mono ?_; rintro e w8 ⟨rfl, hBm, m0, m1, m2, m3, m4, m5, m6⟩))
          have HC3 := hide (unhide HC2 w8 hBm)
          clear HC2 HC1
          go_wp2_with fail
          go_region_held3 (fun w' => w'.cell? ⟨w.heap.size, 0, none⟩ = some (.string nm) ∧ w'.cell? ⟨w.heap.size, 1, none⟩ = some (.slice b1 n1 c1) ∧ w'.cell? ⟨w.heap.size, 2, none⟩ = some (.slice b2 n2 c2) ∧ w'.cell? ⟨w.heap.size, 3, none⟩ = some (.slice b3 n3 c3) ∧ w'.cell? ⟨w.heap.size, 4, none⟩ = some (.slice b4 n4 c4) ∧ w'.cell? ⟨w.heap.size, 5, none⟩ = some (.slice b5 insts.length c5) ∧ w'.cell? ⟨w.heap.size, 6, none⟩ = some (.slice b6 n6 c6)) (go_keep) (first | (go_at_call 44; refine (unhide HC3).mono ?_; rintro e w7 ⟨rfl, hBl, l0, l1, l2, l3, l4, l5, l6⟩))
          have HBL := hide hBl
          go_wp2
          go_roundg (body.length - (en + 1))
          case measure => have := unhide HG; omega
          case rel => exact ⟨en + 1, fu', sum + (1 + v1), by omega, rfl, by go_num, rfl, by omega, by omega, by omega, unhide HF, unhide HNX, unhide HBL⟩

end Go.Proofs.YtmglbkndjnflkaaGreatDoor
