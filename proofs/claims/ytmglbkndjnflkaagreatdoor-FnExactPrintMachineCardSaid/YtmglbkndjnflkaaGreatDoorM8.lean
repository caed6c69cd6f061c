import Derived.Test.YtmglbkndjnflkaaGreatDoorM6
import Derived.BigRegion
namespace Go.Proofs.YtmglbkndjnflkaaGreatDoor
open Go.RowKit
set_option linter.unusedSimpArgs false
set_option linter.unusedVariables false

theorem callB_lo (ks : List DClass) (k : DClass) (s : DStm) (h : s.at_ < 0 ∨ (k.insts.length : Int) ≤ s.at_) : callB ks k s = false := by unfold callB; rw [if_pos h]
theorem callB_in (ks : List DClass) (k : DClass) (s : DStm) (j gi : Nat) (hj : j < k.insts.length) (ha : s.at_ = (j : Int)) (hgi : k.insts[j] = (gi : Int)) (hg : gi < ks.length) :
    callB ks k s = (decide (s.outs.length = ks[gi].outs.length ∧ s.args.length = ks[gi].ins.length) && (List.range s.outs.length).all (fun i => !outBad k s.outs i) && s.args.all (mcB k)) := by
  have e : (k.insts.getD s.at_.toNat 0).toNat = gi := by
    rw [ha, Int.toNat_natCast, List.getD_eq_getElem?_getD, List.getElem?_eq_getElem hj, Option.getD_some, hgi, Int.toNat_natCast]
  unfold callB
  rw [if_neg (by rw [ha]; omega), e, List.getElem?_eq_getElem hg]
theorem outBad_at (k : DClass) (outs : List ByteArray) (i : Nat) (hi : i < outs.length) : outBad k outs i = (!setB k outs[i] || decide (placeI outs outs[i] < (i : Int))) := by
  unfold outBad
  rw [List.getElem?_eq_getElem hi]
theorem range_no {n : Nat} {p : Nat → Bool} (i : Nat) (hi : i < n) (h : p i = true) : (List.range n).all (fun j => !p j) = false := by
  rw [List.all_eq_false]
  exact ⟨i, List.mem_range.2 hi, by simp [h]⟩
theorem range_yes {n : Nat} {p : Nat → Bool} (h : ∀ j, j < n → p j = false) : (List.range n).all (fun j => !p j) = true := by
  rw [List.all_eq_true]
  intro x hx
  rw [h x (List.mem_range.1 hx)]
  rfl

set_option maxRecDepth 20000 in
set_option maxHeartbeats 4000000 in
theorem l3StmOK_k3 (ks : List DClass) (k : DClass) (nm : ByteArray) (atv : Int) (outs : List ByteArray) (code : List DItem) (args : List (List DItem))  (a1 a2 a3 a4 a5 a6 mv ov cv av : Value) (w : World) (hm : SlAt 7 160 RClass 0 w mv ks) (h : ClassIn w k a1 a2 a3 a4 a5 a6) (h1 : SlAt 1 16 RStr 0 w ov outs) (h2 : SlAt 3 32 RItem 0 w cv code) (h3 : SlAt 1 24 RItems 0 w av args)
    (hin : ∀ j (hj : j < k.insts.length), 0 ≤ k.insts[j] ∧ k.insts[j] < ks.length) :
    Calls Tryz.prog 40 #[.agg #[mv], .agg #[.string k.name, a1, a2, a3, a4, a5, a6], .agg #[.int .i64 3, .string nm, .int .i64 atv, ov, cv, av]] w (Ans (.bool (stmB ks k ⟨3, nm, atv, outs, code, args⟩)) w) := by
  have HCO := hide (fun code v w' (hb : Below w.heap.size w w') hv => l3CodeOK_ok k code a1 a2 a3 a4 a5 a6 v w' (h.stays hb) hv)
  have HSE := hide (fun x w' (hb : Below w.heap.size w w') => l3Settable_ok k x a1 a2 a3 a4 a5 a6 w' (h.stays hb))
  have HVR := hide (fun w' (hb : Below w.heap.size w w') => l3Vars_ok k a1 a2 a3 a4 a5 a6 w' (h.stays hb).ins (h.stays hb).outs (h.stays hb).locs h.sum)
  have HIN := hide h.insts
  obtain ⟨b1, c1, rfl⟩ := h.ins.shape
  obtain ⟨b2, c2, rfl⟩ := h.outs.shape
  obtain ⟨b3, c3, rfl⟩ := h.locs.shape
  obtain ⟨b4, c4, rfl⟩ := h.mems.shape
  obtain ⟨b5, c5, rfl⟩ := h.insts.shape
  obtain ⟨b6, c6, rfl⟩ := h.body.shape
  obtain ⟨bm, cm, rfl⟩ := hm.shape
  obtain ⟨o1, p1, rfl⟩ := h1.shape
  obtain ⟨o2, p2, rfl⟩ := h2.shape
  obtain ⟨o3, p3, rfl⟩ := h3.shape
  have z1 := h1.lenM
  have z2 := h2.lenM
  have z3 := h3.lenM
  have z4 := h.mems.lenM
  have z5 := h.insts.lenM
  have z6 := hm.lenM
  have HO := hide h1
  have HC := hide h2
  have HAA := hide h3
  have HMM := hide hm
  clear h hm h1 h2 h3
  have hA : Below w.heap.size w (((w.alloc (.cells #[.slice bm ks.length cm] 29)).alloc (.cells #[.string k.name, .slice b1 k.ins.length c1, .slice b2 k.outs.length c2, .slice b3 k.locs.length c3, .slice b4 k.mems.length c4, .slice b5 k.insts.length c5, .slice b6 k.body.length c6] 40)).alloc (.cells #[.int .i64 3, .string nm, .int .i64 atv, .slice o1 outs.length p1, .slice o2 code.length p2, .slice o3 args.length p3] 47)) := (((Below.refl _ _).alloc (Nat.le_refl _) _).alloc (by simp) _).alloc (by simp only [World.size_alloc]; omega) _
  have hAz : (((w.alloc (.cells #[.slice bm ks.length cm] 29)).alloc (.cells #[.string k.name, .slice b1 k.ins.length c1, .slice b2 k.outs.length c2, .slice b3 k.locs.length c3, .slice b4 k.mems.length c4, .slice b5 k.insts.length c5, .slice b6 k.body.length c6] 40)).alloc (.cells #[.int .i64 3, .string nm, .int .i64 atv, .slice o1 outs.length p1, .slice o2 code.length p2, .slice o3 args.length p3] 47)).heap.size = w.heap.size + 3 := by simp
  have hB1 : BlkAt (((w.alloc (.cells #[.slice bm ks.length cm] 29)).alloc (.cells #[.string k.name, .slice b1 k.ins.length c1, .slice b2 k.outs.length c2, .slice b3 k.locs.length c3, .slice b4 k.mems.length c4, .slice b5 k.insts.length c5, .slice b6 k.body.length c6] 40)).alloc (.cells #[.int .i64 3, .string nm, .int .i64 atv, .slice o1 outs.length p1, .slice o2 code.length p2, .slice o3 args.length p3] 47)) w.heap.size 29 #[.slice bm ks.length cm] := (blk_box w #[.slice bm ks.length cm] 29).below (((Below.refl _ _).alloc (Nat.le_refl _) _).alloc (by simp) _) (by simp)
  have hB2 : BlkAt (((w.alloc (.cells #[.slice bm ks.length cm] 29)).alloc (.cells #[.string k.name, .slice b1 k.ins.length c1, .slice b2 k.outs.length c2, .slice b3 k.locs.length c3, .slice b4 k.mems.length c4, .slice b5 k.insts.length c5, .slice b6 k.body.length c6] 40)).alloc (.cells #[.int .i64 3, .string nm, .int .i64 atv, .slice o1 outs.length p1, .slice o2 code.length p2, .slice o3 args.length p3] 47)) (w.heap.size + 1) 40 #[.string k.name, .slice b1 k.ins.length c1, .slice b2 k.outs.length c2, .slice b3 k.locs.length c3, .slice b4 k.mems.length c4, .slice b5 k.insts.length c5, .slice b6 k.body.length c6] := by
    have h0 := blk_box (w.alloc (.cells #[.slice bm ks.length cm] 29)) #[.string k.name, .slice b1 k.ins.length c1, .slice b2 k.outs.length c2, .slice b3 k.locs.length c3, .slice b4 k.mems.length c4, .slice b5 k.insts.length c5, .slice b6 k.body.length c6] 40
    rw [show (w.alloc (.cells #[.slice bm ks.length cm] 29)).heap.size = w.heap.size + 1 from by simp] at h0
    exact h0.below ((Below.refl _ _).alloc (Nat.le_refl _) _) (by simp)
  have hB3 : BlkAt (((w.alloc (.cells #[.slice bm ks.length cm] 29)).alloc (.cells #[.string k.name, .slice b1 k.ins.length c1, .slice b2 k.outs.length c2, .slice b3 k.locs.length c3, .slice b4 k.mems.length c4, .slice b5 k.insts.length c5, .slice b6 k.body.length c6] 40)).alloc (.cells #[.int .i64 3, .string nm, .int .i64 atv, .slice o1 outs.length p1, .slice o2 code.length p2, .slice o3 args.length p3] 47)) (w.heap.size + 2) 47 #[.int .i64 3, .string nm, .int .i64 atv, .slice o1 outs.length p1, .slice o2 code.length p2, .slice o3 args.length p3] := by
    have h0 := blk_box ((w.alloc (.cells #[.slice bm ks.length cm] 29)).alloc (.cells #[.string k.name, .slice b1 k.ins.length c1, .slice b2 k.outs.length c2, .slice b3 k.locs.length c3, .slice b4 k.mems.length c4, .slice b5 k.insts.length c5, .slice b6 k.body.length c6] 40)) #[.int .i64 3, .string nm, .int .i64 atv, .slice o1 outs.length p1, .slice o2 code.length p2, .slice o3 args.length p3] 47
    rw [show ((w.alloc (.cells #[.slice bm ks.length cm] 29)).alloc (.cells #[.string k.name, .slice b1 k.ins.length c1, .slice b2 k.outs.length c2, .slice b3 k.locs.length c3, .slice b4 k.mems.length c4, .slice b5 k.insts.length c5, .slice b6 k.body.length c6] 40)).heap.size = w.heap.size + 2 from by simp] at h0
    exact h0
  obtain ⟨BX, hBX⟩ : ∃ BX : World → Prop, ∀ w', BX w' ↔ Below (w.heap.size + 3) (((w.alloc (.cells #[.slice bm ks.length cm] 29)).alloc (.cells #[.string k.name, .slice b1 k.ins.length c1, .slice b2 k.outs.length c2, .slice b3 k.locs.length c3, .slice b4 k.mems.length c4, .slice b5 k.insts.length c5, .slice b6 k.body.length c6] 40)).alloc (.cells #[.int .i64 3, .string nm, .int .i64 atv, .slice o1 outs.length p1, .slice o2 code.length p2, .slice o3 args.length p3] 47)) w' := ⟨_, fun _ => Iff.rfl⟩
  have HX1 : Hid (∀ w1, BX w1 → Below w.heap.size w w1) := fun w1 h => hA.trans (((hBX w1).1 h).mono (by omega))
  have HX2 : Hid (∀ w1 w2, BX w1 → Below w1.heap.size w1 w2 → BX w2) := fun w1 w2 h h2 => (hBX w2).2 (((hBX w1).1 h).trans (h2.mono (by have := ((hBX w1).1 h).size; omega)))
  have HX4 : Hid (∀ w1, BX w1 → w1.cell? ⟨w.heap.size, 0, none⟩ = some (.slice bm ks.length cm) ∧ w1.cell? ⟨w.heap.size + 1, 0, none⟩ = some (.string k.name) ∧ w1.cell? ⟨w.heap.size + 1, 1, none⟩ = some (.slice b1 k.ins.length c1) ∧ w1.cell? ⟨w.heap.size + 1, 2, none⟩ = some (.slice b2 k.outs.length c2) ∧ w1.cell? ⟨w.heap.size + 1, 3, none⟩ = some (.slice b3 k.locs.length c3) ∧ w1.cell? ⟨w.heap.size + 1, 4, none⟩ = some (.slice b4 k.mems.length c4) ∧ w1.cell? ⟨w.heap.size + 1, 5, none⟩ = some (.slice b5 k.insts.length c5) ∧ w1.cell? ⟨w.heap.size + 1, 6, none⟩ = some (.slice b6 k.body.length c6) ∧ w1.cell? ⟨w.heap.size + 2, 0, none⟩ = some (.int .i64 3) ∧ w1.cell? ⟨w.heap.size + 2, 1, none⟩ = some (.string nm) ∧ w1.cell? ⟨w.heap.size + 2, 2, none⟩ = some (.int .i64 atv) ∧ w1.cell? ⟨w.heap.size + 2, 3, none⟩ = some (.slice o1 outs.length p1) ∧ w1.cell? ⟨w.heap.size + 2, 4, none⟩ = some (.slice o2 code.length p2) ∧ w1.cell? ⟨w.heap.size + 2, 5, none⟩ = some (.slice o3 args.length p3)) := fun w1 h => ⟨(hB1.below ((hBX w1).1 h) (by omega)).cell (i := 0) (v := .slice bm ks.length cm) rfl, (hB2.below ((hBX w1).1 h) (by omega)).cell (i := 0) (v := .string k.name) rfl, (hB2.below ((hBX w1).1 h) (by omega)).cell (i := 1) (v := .slice b1 k.ins.length c1) rfl, (hB2.below ((hBX w1).1 h) (by omega)).cell (i := 2) (v := .slice b2 k.outs.length c2) rfl, (hB2.below ((hBX w1).1 h) (by omega)).cell (i := 3) (v := .slice b3 k.locs.length c3) rfl, (hB2.below ((hBX w1).1 h) (by omega)).cell (i := 4) (v := .slice b4 k.mems.length c4) rfl, (hB2.below ((hBX w1).1 h) (by omega)).cell (i := 5) (v := .slice b5 k.insts.length c5) rfl, (hB2.below ((hBX w1).1 h) (by omega)).cell (i := 6) (v := .slice b6 k.body.length c6) rfl, (hB3.below ((hBX w1).1 h) (by omega)).cell (i := 0) (v := .int .i64 3) rfl, (hB3.below ((hBX w1).1 h) (by omega)).cell (i := 1) (v := .string nm) rfl, (hB3.below ((hBX w1).1 h) (by omega)).cell (i := 2) (v := .int .i64 atv) rfl, (hB3.below ((hBX w1).1 h) (by omega)).cell (i := 3) (v := .slice o1 outs.length p1) rfl, (hB3.below ((hBX w1).1 h) (by omega)).cell (i := 4) (v := .slice o2 code.length p2) rfl, (hB3.below ((hBX w1).1 h) (by omega)).cell (i := 5) (v := .slice o3 args.length p3) rfl⟩
  have HX5 : Hid (∀ w1, BX w1 → w.heap.size + 3 ≤ w1.heap.size) := fun w1 h => by have := ((hBX w1).1 h).size; omega
  have HX0 : Hid (BX (((w.alloc (.cells #[.slice bm ks.length cm] 29)).alloc (.cells #[.string k.name, .slice b1 k.ins.length c1, .slice b2 k.outs.length c2, .slice b3 k.locs.length c3, .slice b4 k.mems.length c4, .slice b5 k.insts.length c5, .slice b6 k.body.length c6] 40)).alloc (.cells #[.int .i64 3, .string nm, .int .i64 atv, .slice o1 outs.length p1, .slice o2 code.length p2, .slice o3 args.length p3] 47))) := (hBX _).2 (Below.refl _ _)
  have HXd : Hid (BX (((w.alloc (.cells #[.slice bm ks.length cm] 29)).alloc (.cells #[.string k.name, .slice b1 k.ins.length c1, .slice b2 k.outs.length c2, .slice b3 k.locs.length c3, .slice b4 k.mems.length c4, .slice b5 k.insts.length c5, .slice b6 k.body.length c6] 40)).alloc (.cells #[.int .i64 3, .string nm, .int .i64 atv, .slice o1 outs.length p1, .slice o2 code.length p2, .slice o3 args.length p3] 47)).drew) := (hBX _).2 (Below.refl _ _).drew
  have HA := hide hA
  clear hA hAz hB1 hB2 hB3 hBX
  by_cases hq : nm.size = 0
  case neg =>
    have d4 := empty_no nm hq
    have d4' := isEmpty_no nm hq
    have HF := hide (stm_name ks k ⟨3, nm, atv, outs, code, args⟩ (by simp) hq)
    generalize stmB ks k ⟨3, nm, atv, outs, code, args⟩ = R at *
    clear hq
    go_enter Tryz.func40, Tryz.ntmps40
    go_wp2
    go_ret
    exact ⟨ret_bl (unhide HF).symm, unhide HA⟩
  have d4 := empty_yes nm hq
  have d4' := isEmpty_yes nm hq
  have H_name := hide hq
  clear hq
  by_cases hq : code.length = 0
  case neg =>
    have d8 : ((code.length : Int) != 0) = true := by rw [bne_iff_ne]; omega
    have HF := hide (stm_code ks k ⟨3, nm, atv, outs, code, args⟩ (by simp) (by simp) hq)
    generalize stmB ks k ⟨3, nm, atv, outs, code, args⟩ = R at *
    clear hq
    go_enter Tryz.func40, Tryz.ntmps40
    go_wp2
    go_ret
    exact ⟨ret_bl (unhide HF).symm, unhide HA⟩
  have d8 : ((code.length : Int) != 0) = false := by rw [bne_eq_false_iff_eq]; omega
  have H_code := hide hq
  clear hq
  have HF : Hid (stmB ks k ⟨3, nm, atv, outs, code, args⟩ = callB ks k ⟨3, nm, atv, outs, code, args⟩) := (stm_good ks k ⟨3, nm, atv, outs, code, args⟩ (Or.inr (Or.inr (unhide H_name))) (Or.inr (Or.inl rfl)) (Or.inl rfl) (Or.inr (Or.inr (unhide H_code)))).trans (by unfold stmTail; rw [if_neg (by simp), if_neg (by simp), if_neg (by simp), if_neg (by simp), if_pos rfl])
  generalize stmB ks k ⟨3, nm, atv, outs, code, args⟩ = R at *
  by_cases h0 : atv < 0
  · have e1 : decide (atv < 0) = true := decide_eq_true h0
    have HR : Hid (R = false) := (unhide HF).trans (callB_lo _ _ _ (Or.inl h0))
    clear HF
    go_enter Tryz.func40, Tryz.ntmps40
    go_wp2
    go_ret
    exact ⟨ret_bl (unhide HR).symm, unhide HA⟩
  have e1 : decide (atv < 0) = false := decide_eq_false h0
  by_cases h9 : (k.insts.length : Int) ≤ atv
  · have e2 : decide ((k.insts.length : Int) ≤ atv) = true := decide_eq_true h9
    have HR : Hid (R = false) := (unhide HF).trans (callB_lo _ _ _ (Or.inr h9))
    clear HF
    go_enter Tryz.func40, Tryz.ntmps40
    go_wp2
    go_ret
    exact ⟨ret_bl (unhide HR).symm, unhide HA⟩
  have e2 : decide ((k.insts.length : Int) ≤ atv) = false := decide_eq_false h9
  obtain ⟨j, rfl⟩ := Int.eq_ofNat_of_zero_le (show 0 ≤ atv by omega)
  have hj : j < k.insts.length := by omega
  obtain ⟨gi, hgi⟩ := Int.eq_ofNat_of_zero_le (hin j hj).1
  have hg : gi < ks.length := by have := (hin j hj).2; omega
  have HR := hide ((unhide HF).trans (callB_in ks k ⟨3, nm, (j : Int), outs, code, args⟩ j gi hj rfl hgi hg))
  clear HF
  have HCI : Hid (∃ ib io, b5 = some ⟨ib, io, none⟩ ∧ ib < w.heap.size ∧ ∀ w1, BX w1 → w1.cell? ⟨ib, io + j, none⟩ = some (.int .i64 (gi : Int))) := by
    obtain ⟨ai, ci, hvi, _, _, hxi⟩ := unhide HIN
    simp only [Value.slice.injEq] at hvi
    obtain ⟨rfl, _, rfl⟩ := hvi
    obtain ⟨ib, io, ics, rfl, _, hib, _, hic, ⟨rfl, _⟩⟩ := hxi j hj
    refine ⟨ib, io, rfl, hib, fun w1 h1 => ?_⟩
    rw [(unhide HX1 _ h1).cell (p := ⟨ib, _, none⟩) hib, ← hgi]
    have h0 := hic 0 (by simp)
    rw [Nat.mul_one, Nat.add_zero] at h0
    exact h0
  have HCG : Hid (∃ gb go gn v1 v2 v3 v4 v5 v6, bm = some ⟨gb, go, none⟩ ∧ gb < w.heap.size ∧ (∃ d1 e1, v1 = .slice d1 ks[gi].ins.length e1) ∧ (∃ d1 e1, v2 = .slice d1 ks[gi].outs.length e1) ∧ (∃ d1 n e1, v3 = .slice d1 n e1) ∧ (∃ d1 n e1, v4 = .slice d1 n e1) ∧ (∃ d1 n e1, v5 = .slice d1 n e1) ∧ (∃ d1 n e1, v6 = .slice d1 n e1) ∧ ks[gi].ins.length ≤ 140737488355328 ∧ ks[gi].outs.length ≤ 140737488355328 ∧ ∀ w1, BX w1 → w1.cell? ⟨gb, go + gi * 7, none⟩ = some (.string gn) ∧ w1.cell? ⟨gb, go + gi * 7 + 1, none⟩ = some v1 ∧ w1.cell? ⟨gb, go + gi * 7 + 2, none⟩ = some v2 ∧ w1.cell? ⟨gb, go + gi * 7 + 3, none⟩ = some v3 ∧ w1.cell? ⟨gb, go + gi * 7 + 4, none⟩ = some v4 ∧ w1.cell? ⟨gb, go + gi * 7 + 5, none⟩ = some v5 ∧ w1.cell? ⟨gb, go + gi * 7 + 6, none⟩ = some v6) := by
    obtain ⟨ag, cg, hvg, _, _, hxg⟩ := unhide HMM
    simp only [Value.slice.injEq] at hvg
    obtain ⟨rfl, _, rfl⟩ := hvg
    obtain ⟨gb, go, gcs, rfl, _, hgb, hgl, hgc, ⟨v1, v2, v3, v4, v5, v6, rfl, _, t1, t2, t3, t4, t5, t6⟩⟩ := hxg gi hg
    refine ⟨gb, go, ks[gi].name, v1, v2, v3, v4, v5, v6, rfl, hgb, t1.shape, t2.shape, (by obtain ⟨d, e, h⟩ := t3.shape; exact ⟨d, _, e, h⟩), (by obtain ⟨d, e, h⟩ := t4.shape; exact ⟨d, _, e, h⟩), (by obtain ⟨d, e, h⟩ := t5.shape; exact ⟨d, _, e, h⟩), (by obtain ⟨d, e, h⟩ := t6.shape; exact ⟨d, _, e, h⟩), t1.lenM, t2.lenM, fun w1 h1 => ?_⟩
    have hB := unhide HX1 _ h1
    have hc : ∀ i (hi : i < 7), w1.cell? ⟨gb, go + gi * 7 + i, none⟩ = some (([.string ks[gi].name, v1, v2, v3, v4, v5, v6] : List Value)[i]) := fun i hi => by
      rw [hB.cell (p := ⟨gb, _, none⟩) hgb]
      exact hgc i hi
    exact ⟨hc 0 (by omega), hc 1 (by omega), hc 2 (by omega), hc 3 (by omega), hc 4 (by omega), hc 5 (by omega), hc 6 (by omega)⟩
  have hgI : (gi : Int) < (ks.length : Int) := by omega
  have hjI : (j : Int) < (k.insts.length : Int) := by omega
  generalize ks[gi].ins.length = gil at *
  generalize ks[gi].outs.length = gol at *
  clear h0 h9 HIN HMM hin hgi
  go_enter Tryz.func40, Tryz.ntmps40
  go_wp2_with fail
  have hz3 : (((w.alloc (.cells #[.slice bm ks.length cm] 29)).alloc (.cells #[.string k.name, .slice b1 k.ins.length c1, .slice b2 k.outs.length c2, .slice b3 k.locs.length c3, .slice b4 k.mems.length c4, .slice b5 k.insts.length c5, .slice b6 k.body.length c6] 40)).alloc (.cells #[.int .i64 3, .string nm, .int .i64 (j : Int), .slice o1 outs.length p1, .slice o2 code.length p2, .slice o3 args.length p3] 47)).heap.size = w.heap.size + 3 := by simp
  generalize (((w.alloc (.cells #[.slice bm ks.length cm] 29)).alloc (.cells #[.string k.name, .slice b1 k.ins.length c1, .slice b2 k.outs.length c2, .slice b3 k.locs.length c3, .slice b4 k.mems.length c4, .slice b5 k.insts.length c5, .slice b6 k.body.length c6] 40)).alloc (.cells #[.int .i64 3, .string nm, .int .i64 (j : Int), .slice o1 outs.length p1, .slice o2 code.length p2, .slice o3 args.length p3] 47)) = wS at *
  obtain ⟨q0, q1, q2, q3, q4, q5, q6, q7, q8, q9, q10, q11, q12, q13⟩ := unhide HX4 _ (unhide HX0)
  obtain ⟨ib, io, rfl, hib, hic⟩ := unhide HCI
  obtain ⟨gb, go, gn, v1, v2, v3, v4, v5, v6, rfl, hgb, ⟨d1, e1', rfl⟩, ⟨d2, e2', rfl⟩, ⟨d3, m3, e3, rfl⟩, ⟨d4, m4, e4, rfl⟩, ⟨d5, m5, e5, rfl⟩, ⟨d6, m6, e6, rfl⟩, x1, x2, hgc⟩ := unhide HCG
  clear HCI HCG
  have r0 := hic _ (unhide HX0)
  obtain ⟨g0, g1, g2, g3, g4, g5, g6⟩ := hgc _ (unhide HX0)
  have hibz : ib < wS.heap.size := by omega
  have hgbz : gb < wS.heap.size := by omega
  clear hic hgc
  have n1 : wS.heap.size ≠ ib := by omega
  have n2 : wS.heap.size ≠ gb := by omega
  have n3 : wS.heap.size ≠ w.heap.size := by omega
  have n4 : wS.heap.size ≠ w.heap.size + 1 := by omega
  have n5 : wS.heap.size ≠ w.heap.size + 2 := by omega
  have HZ3 := hide hz3
  have hzb : Below wS.heap.size wS (wS.alloc (.cells #[.string ⟨#[]⟩, .slice none 0 0, .slice none 0 0, .slice none 0 0, .slice none 0 0, .slice none 0 0, .slice none 0 0] 40)) := (Below.refl _ _).alloc (Nat.le_refl _) _
  have s0 := (hzb.cell (p := ⟨gb, _, none⟩) hgbz).trans g0
  have s1 := (hzb.cell (p := ⟨gb, _, none⟩) hgbz).trans g1
  have s2 := (hzb.cell (p := ⟨gb, _, none⟩) hgbz).trans g2
  have s3 := (hzb.cell (p := ⟨gb, _, none⟩) hgbz).trans g3
  have s4 := (hzb.cell (p := ⟨gb, _, none⟩) hgbz).trans g4
  have s5 := (hzb.cell (p := ⟨gb, _, none⟩) hgbz).trans g5
  have s6 := (hzb.cell (p := ⟨gb, _, none⟩) hgbz).trans g6
  have s7 := (hzb.cell (p := ⟨ib, _, none⟩) hibz).trans r0
  have s8 := (hzb.cell (p := ⟨w.heap.size, _, none⟩) (show w.heap.size < wS.heap.size by omega)).trans q0
  have s9 := (hzb.cell (p := ⟨w.heap.size + 1, _, none⟩) (show w.heap.size + 1 < wS.heap.size by omega)).trans q6
  have s10 := (hzb.cell (p := ⟨w.heap.size + 2, _, none⟩) (show w.heap.size + 2 < wS.heap.size by omega)).trans q10
  have s11 : (wS.alloc (.cells #[.string ⟨#[]⟩, .slice none 0 0, .slice none 0 0, .slice none 0 0, .slice none 0 0, .slice none 0 0, .slice none 0 0] 40)).cell? ⟨w.heap.size + 1 + 1, 2, none⟩ = some (.int .i64 (j : Int)) := s10
  have q10' : wS.cell? ⟨w.heap.size + 1 + 1, 2, none⟩ = some (.int .i64 (j : Int)) := q10
  clear hz3 hibz hgbz hzb
  go_region
  clear s0 s1 s2 s3 s4 s5 s6 s7 s8 s9 s10 s11 q10' g0 g1 g2 g3 g4 g5 g6 r0 n1 n2 n3 n4 n5 q0 q1 q2 q3 q4 q5 q6 q7 q8 q9 q10 q11 q12 q13
  have hbG := unhide HX2 _ _ (unhide HX0) ((Below.refl _ wS).alloc (Nat.le_refl _) (.cells #[.string gn, .slice d1 gil e1', .slice d2 gol e2', .slice d3 m3 e3, .slice d4 m4 e4, .slice d5 m5 e5, .slice d6 m6 e6] 40)).drew
  have hGb : BlkAt (wS.alloc (.cells #[.string gn, .slice d1 gil e1', .slice d2 gol e2', .slice d3 m3 e3, .slice d4 m4 e4, .slice d5 m5 e5, .slice d6 m6 e6] 40)).drew wS.heap.size 40 #[.string gn, .slice d1 gil e1', .slice d2 gol e2', .slice d3 m3 e3, .slice d4 m4 e4, .slice d5 m5 e5, .slice d6 m6 e6] := blk_box wS #[.string gn, .slice d1 gil e1', .slice d2 gol e2', .slice d3 m3 e3, .slice d4 m4 e4, .slice d5 m5 e5, .slice d6 m6 e6] 40
  have u1 := hGb.cell (i := 1) (v := .slice d1 gil e1') rfl
  have u2 := hGb.cell (i := 2) (v := .slice d2 gol e2') rfl
  generalize (wS.alloc (.cells #[.string gn, .slice d1 gil e1', .slice d2 gol e2', .slice d3 m3 e3, .slice d4 m4 e4, .slice d5 m5 e5, .slice d6 m6 e6] 40)).drew = wG at *
  generalize wS.heap.size = gB at *
  clear HZ3 hGb HX0 HXd HA
  obtain ⟨q0, q1, q2, q3, q4, q5, q6, q7, q8, q9, q10, q11, q12, q13⟩ := unhide HX4 _ hbG
  have HBG := hide hbG
  have HBW := hide (unhide HX1 _ hbG)
  clear hbG
  by_cases ho : outs.length = gol
  case neg =>
    have c1' : ((outs.length : Int) != (gol : Int)) = true := by rw [bne_iff_ne]; omega
    have HF : Hid (R = false) := (unhide HR).trans (by simp [ho])
    clear HR ho
    go_wp2
    go_ret
    exact ⟨ret_bl (unhide HF).symm, unhide HBW⟩
  have c1' : ((outs.length : Int) != (gol : Int)) = false := by rw [bne_eq_false_iff_eq]; omega
  by_cases ha : args.length = gil
  case neg =>
    have c2' : ((args.length : Int) != (gil : Int)) = true := by rw [bne_iff_ne]; omega
    have HF : Hid (R = false) := (unhide HR).trans (by simp [ha])
    clear HR ho ha
    go_wp2
    go_ret
    exact ⟨ret_bl (unhide HF).symm, unhide HBW⟩
  have c2' : ((args.length : Int) != (gil : Int)) = false := by rw [bne_eq_false_iff_eq]; omega
  have HR2 : Hid (R = ((List.range outs.length).all (fun i => !outBad k outs i) && args.all (mcB k))) := (unhide HR).trans (by rw [decide_eq_true ⟨ho, ha⟩, Bool.true_and])
  clear HR ho ha
  have HPL := hide (fun x w' (hb : BX w') => l3Place_ok outs _ x w' ((unhide HO).stays RStr_kept (unhide HX1 _ hb)))
  have HSET := hide (fun x w' (hb : BX w') => unhide HSE x w' (unhide HX1 _ hb))
  have HCOD := hide (fun code v w' (hb : BX w') hv => unhide HCO code v w' (unhide HX1 _ hb) hv)
  have HOX : Hid (∀ i (hi : i < outs.length), ∃ b o, o1 = some ⟨b, o, none⟩ ∧ ∀ w', BX w' → w'.cell? ⟨b, o + i, none⟩ = some (.string outs[i])) := fun i hi => by
    obtain ⟨a9, c9, hv9, _, _, hx9⟩ := unhide HO
    simp only [Value.slice.injEq] at hv9
    obtain ⟨rfl, _, rfl⟩ := hv9
    obtain ⟨b, o, cs, rfl, _, hb, _, hc, ⟨rfl, _⟩⟩ := hx9 i hi
    refine ⟨b, o, rfl, fun w' h' => ?_⟩
    rw [(unhide HX1 _ h').cell (p := ⟨b, _, none⟩) hb]
    have h0 := hc 0 (by simp)
    rw [Nat.mul_one, Nat.add_zero] at h0
    exact h0
  have HAX : Hid (∀ i (hi : i < args.length), ∃ b o av cv, o3 = some ⟨b, o, none⟩ ∧ ∀ w', BX w' → w'.cell? ⟨b, o + i, none⟩ = some (.slice av args[i].length cv) ∧ SlAt 3 32 RItem 0 w' (.slice av args[i].length cv) args[i]) := fun i hi => by
    obtain ⟨a9, c9, hv9, _, _, hx9⟩ := unhide HAA
    simp only [Value.slice.injEq] at hv9
    obtain ⟨rfl, _, rfl⟩ := hv9
    obtain ⟨b, o, cs, rfl, _, hb, _, hc, ⟨v, rfl, hv⟩⟩ := hx9 i hi
    obtain ⟨av, cv, rfl⟩ := hv.shape
    refine ⟨b, o, av, cv, rfl, fun w' h' => ⟨?_, hv.stays RItem_kept (unhide HX1 _ h')⟩⟩
    rw [(unhide HX1 _ h').cell (p := ⟨b, _, none⟩) hb]
    have h0 := hc 0 (by simp)
    rw [Nat.mul_one, Nat.add_zero] at h0
    exact h0
  clear HO HAA HC HSE HCO HVR H_name H_code
  go_wp2
  go_loopg [155] outs.length (fun g iv wr => ∃ (i : Nat), i ≤ outs.length ∧ g = outs.length - i ∧ iv = .int .i64 i ∧ (∀ j, j < i → outBad k outs j = false) ∧ BX wr)
  case atStart => exact ⟨0, Nat.zero_le _, by omega, rfl, fun j hj => absurd hj (Nat.not_lt_zero _), unhide HBG⟩
  case round =>
    obtain ⟨i, hi, hg, rfl, hno, hbx⟩ := hrel
    rename World => wr
    have HG := hide hg
    have HNO := hide hno
    have HBX := hide hbx
    clear hg hno
    obtain ⟨r0, r1, r2, r3, r4, r5, r6, r7, r8, r9, r10, r11, r12, r13⟩ := unhide HX4 _ hbx
    clear hbx
    by_cases hlt : i < outs.length
    · obtain ⟨b, o, rfl, hcx⟩ := unhide HOX i hlt
      have x0 := hcx _ (unhide HBX)
      have HOB := hide (outBad_at k outs i hlt)
      have HN : Hid (outBad k outs i = true → R = false) := fun h => (unhide HR2).trans (by rw [range_no i hlt h, Bool.false_and])
      have HY : Hid (outBad k outs i = false → ∀ j, j < i + 1 → outBad k outs j = false) := fun h j hji => by
        by_cases e : j = i
        · subst e; exact h
        · exact unhide HNO j (by omega)
      have HC1 := hide (unhide HSET outs[i] _ (unhide HBX))
      have HC2 := hide (fun w' hb => unhide HPL outs[i] w' hb)
      have hlt' : (i : Int) < (outs.length : Int) := by omega
      have hpb := place_bd outs outs[i]
      clear hcx
      generalize placeI outs outs[i] = pl at *
      generalize outBad k outs i = ob at *
      generalize setB k outs[i] = sb at *
      generalize outs[i] = x at *
      cases sb
      · have HF := hide (unhide HN ((unhide HOB).trans rfl))
        clear HN HY HOB HC2
        go_wp2_with fail
        refine (unhide HC1).mono ?_
        rintro e w5 ⟨rfl, hb5⟩
        have HB := hide (unhide HX1 _ (unhide HX2 _ _ (unhide HBX) hb5))
        clear hb5
        go_wp2
        go_ret
        exact ⟨ret_bl (unhide HF).symm, unhide HB⟩
      by_cases hp : pl < (i : Int)
      · have f1 : decide (pl < (i : Int)) = true := decide_eq_true hp
        have HF := hide (unhide HN ((unhide HOB).trans (by rw [f1]; rfl)))
        clear HN HY HOB
        go_wp2_with fail
        refine (unhide HC1).mono ?_
        rintro e w5 ⟨rfl, hb5⟩
        have hx5 := unhide HX2 _ _ (unhide HBX) hb5
        have HC3 := hide (unhide HC2 _ hx5)
        have HB := hide (unhide HX1 _ hx5)
        obtain ⟨y0, y1, y2, y3, y4, y5, y6, y7, y8, y9, y10, y11, y12, y13⟩ := unhide HX4 _ hx5
        clear hb5 hx5
        go_wp2_with fail
        refine (unhide HC3).mono ?_
        rintro e w6 ⟨rfl, h9⟩
        obtain rfl := h9.symm
        go_wp2
        go_ret
        exact ⟨ret_bl (unhide HF).symm, unhide HB⟩
      · have f1 : decide (pl < (i : Int)) = false := decide_eq_false hp
        have HY2 := hide (unhide HY ((unhide HOB).trans (by rw [f1]; rfl)))
        clear HN HY HOB
        go_wp2_with fail
        refine (unhide HC1).mono ?_
        rintro e w5 ⟨rfl, hb5⟩
        have hx5 := unhide HX2 _ _ (unhide HBX) hb5
        have HC3 := hide (unhide HC2 _ hx5)
        have HB := hide hx5
        obtain ⟨y0, y1, y2, y3, y4, y5, y6, y7, y8, y9, y10, y11, y12, y13⟩ := unhide HX4 _ hx5
        clear hb5 hx5
        go_wp2_with fail
        refine (unhide HC3).mono ?_
        rintro e w6 ⟨rfl, h9⟩
        obtain rfl := h9.symm
        go_wp2
        go_roundg (outs.length - (i + 1))
        case measure => have := unhide HG; omega
        case rel => exact ⟨i + 1, by omega, rfl, by go_num, unhide HY2, unhide HB⟩
    · have e : i = outs.length := by omega
      subst e
      have HR3 : Hid (R = args.all (mcB k)) := (unhide HR2).trans (by rw [range_yes (unhide HNO), Bool.true_and])
      clear HR2 HNO HG HPL HSET HOX
      go_wp2
      go_loopg [176] args.length (fun g iv wr => ∃ (i : Nat), i ≤ args.length ∧ g = args.length - i ∧ iv = .int .i64 i ∧ (∀ j (hj : j < args.length), j < i → mcB k args[j] = true) ∧ BX wr)
      case atStart => exact ⟨0, Nat.zero_le _, by omega, rfl, fun j _ hj => absurd hj (Nat.not_lt_zero _), unhide HBX⟩
      case round =>
        obtain ⟨i, hi, hg, rfl, hno, hbx⟩ := hrel
        rename World => wq
        have HG := hide hg
        have HNO := hide hno
        have HBQ := hide hbx
        clear hg hno
        obtain ⟨z0, z1, z2, z3, z4, z5, z6, z7, z8, z9, z10, z11, z12, z13⟩ := unhide HX4 _ hbx
        clear hbx
        by_cases hlt : i < args.length
        · obtain ⟨b, o, av, cv, rfl, hcx⟩ := unhide HAX i hlt
          obtain ⟨x0, hsl⟩ := hcx _ (unhide HBQ)
          have HN : Hid (mcB k args[i] = false → R = false) := fun h => (unhide HR3).trans (all_no i hlt h)
          have HY : Hid (mcB k args[i] = true → ∀ j (hj : j < args.length), j < i + 1 → mcB k args[j] = true) := fun h j hj hji => by
            by_cases e : j = i
            · subst e; exact h
            · exact unhide HNO j hj (by omega)
          have HC1 := hide (unhide HCOD args[i] _ _ (unhide HBQ) hsl)
          have hlt' : (i : Int) < (args.length : Int) := by omega
          clear hcx hsl
          generalize mcB k args[i] = mb at *
          generalize args[i].length = al at *
          cases mb
          · have HF := hide (unhide HN rfl)
            clear HN HY
            go_wp2_with fail
            refine (unhide HC1).mono ?_
            rintro e w5 ⟨rfl, hb5⟩
            have HB := hide (unhide HX1 _ (unhide HX2 _ _ (unhide HBQ) hb5))
            clear hb5
            go_wp2
            go_ret
            exact ⟨ret_bl (unhide HF).symm, unhide HB⟩
          · have HY2 := hide (unhide HY rfl)
            clear HN HY
            go_wp2_with fail
            refine (unhide HC1).mono ?_
            rintro e w5 ⟨rfl, hb5⟩
            have HB := hide (unhide HX2 _ _ (unhide HBQ) hb5)
            clear hb5
            go_wp2
            go_roundg (args.length - (i + 1))
            case measure => have := unhide HG; omega
            case rel => exact ⟨i + 1, by omega, rfl, by go_num, unhide HY2, unhide HB⟩
        · have e : i = args.length := by omega
          subst e
          have HF : Hid (R = true) := (unhide HR3).trans (all_yes (fun j hj => unhide HNO j hj hj))
          have HB := hide (unhide HX1 _ (unhide HBQ))
          go_wp2
          go_ret
          exact ⟨ret_bl (unhide HF).symm, unhide HB⟩

end Go.Proofs.YtmglbkndjnflkaaGreatDoor
