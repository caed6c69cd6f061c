import Derived.Test.YtmglbkndjnflkaaGreatDoorM3
namespace Go.Proofs.YtmglbkndjnflkaaGreatDoor
open Go.RowKit
set_option linter.unusedSimpArgs false
set_option linter.unusedVariables false

def wrB (s : DStm) (x : ByteArray) : Bool := (s.kind == 1 && (s.name.toList == x.toList)) || (s.kind == 3 && inB s.outs x)
/-- The first of the outputs that may not stand there. -/
def outBad (k : DClass) (outs : List ByteArray) (i : Nat) : Bool := match outs[i]? with | some x => !setB k x || decide (placeI outs x < (i : Int)) | none => false
def callB (ks : List DClass) (k : DClass) (s : DStm) : Bool :=
  if s.at_ < 0 ∨ (k.insts.length : Int) ≤ s.at_ then false
  else match ks[(k.insts.getD s.at_.toNat 0).toNat]? with
    | none => false
    | some g => decide (s.outs.length = g.outs.length ∧ s.args.length = g.ins.length) && (List.range s.outs.length).all (fun i => !outBad k s.outs i) && s.args.all (mcB k)
def stmB (ks : List DClass) (k : DClass) (s : DStm) : Bool :=
  if ¬ (s.kind = 1 ∨ s.kind = 4) ∧ s.name.size ≠ 0 then false
  else if s.kind ≠ 2 ∧ s.kind ≠ 3 ∧ s.at_ ≠ 0 then false
  else if s.kind ≠ 3 ∧ (s.outs.length ≠ 0 ∨ s.args.length ≠ 0) then false
  else if s.kind ≠ 1 ∧ s.kind ≠ 2 ∧ s.code.length ≠ 0 then false
  else if s.kind = 1 then setB k s.name && mcB k s.code
  else if s.kind = 2 then decide (0 ≤ s.at_ ∧ s.at_ < (k.mems.length : Int)) && mcB k s.code
  else if s.kind = 4 then inB (varsOf k) s.name
  else if s.kind = 5 ∨ s.kind = 6 then true
  else if s.kind = 3 then callB ks k s
  else false

theorem stm_name (ks : List DClass) (k : DClass) (s : DStm) (h : ¬ (s.kind = 1 ∨ s.kind = 4)) (h2 : s.name.size ≠ 0) : stmB ks k s = false := by unfold stmB; rw [if_pos ⟨h, h2⟩]
theorem stm_at (ks : List DClass) (k : DClass) (s : DStm) (h : s.kind ≠ 2) (h1 : s.kind ≠ 3) (h2 : s.at_ ≠ 0) : stmB ks k s = false := by
  unfold stmB
  split
  · rfl
  · rw [if_pos ⟨h, h1, h2⟩]
theorem stm_oa (ks : List DClass) (k : DClass) (s : DStm) (h : s.kind ≠ 3) (h2 : s.outs.length ≠ 0 ∨ s.args.length ≠ 0) : stmB ks k s = false := by
  unfold stmB
  split
  · rfl
  split
  · rfl
  · rw [if_pos ⟨h, h2⟩]
theorem stm_code (ks : List DClass) (k : DClass) (s : DStm) (h : s.kind ≠ 1) (h1 : s.kind ≠ 2) (h2 : s.code.length ≠ 0) : stmB ks k s = false := by
  unfold stmB
  split
  · rfl
  split
  · rfl
  split
  · rfl
  · rw [if_pos ⟨h, h1, h2⟩]
def stmTail (ks : List DClass) (k : DClass) (s : DStm) : Bool :=
  if s.kind = 1 then setB k s.name && mcB k s.code
  else if s.kind = 2 then decide (0 ≤ s.at_ ∧ s.at_ < (k.mems.length : Int)) && mcB k s.code
  else if s.kind = 4 then inB (varsOf k) s.name
  else if s.kind = 5 ∨ s.kind = 6 then true
  else if s.kind = 3 then callB ks k s
  else false
theorem stm_good (ks : List DClass) (k : DClass) (s : DStm) (h1 : s.kind = 1 ∨ s.kind = 4 ∨ s.name.size = 0) (h2 : s.kind = 2 ∨ s.kind = 3 ∨ s.at_ = 0) (h3 : s.kind = 3 ∨ (s.outs.length = 0 ∧ s.args.length = 0)) (h4 : s.kind = 1 ∨ s.kind = 2 ∨ s.code.length = 0) : stmB ks k s = stmTail ks k s := by
  unfold stmB stmTail
  rw [if_neg (by omega), if_neg (by omega), if_neg (by omega), if_neg (by omega)]

set_option maxHeartbeats 1000000 in
theorem l3Writes_ok (s : DStm) (x : ByteArray) (o c a : Value) (w : World) (h1 : SlAt 1 16 RStr 0 w o s.outs) (hc : ∃ b n q, c = .slice b n q) (ha : ∃ b n q, a = .slice b n q) :
    Calls Tryz.prog 43 #[.agg #[.int .i64 s.kind, .string s.name, .int .i64 s.at_, o, c, a], .string x] w (Ans (.bool (wrB s x)) w) := by
  obtain ⟨b1, c1, rfl⟩ := h1.shape
  obtain ⟨b2, n2, c2, rfl⟩ := hc
  obtain ⟨b3, n3, c3, rfl⟩ := ha
  have hA : Below w.heap.size w (w.alloc (.cells #[.int .i64 s.kind, .string s.name, .int .i64 s.at_, .slice b1 s.outs.length c1, .slice b2 n2 c2, .slice b3 n3 c3] 47)) := (Below.refl _ _).alloc (Nat.le_refl _) _
  have HI := hide (l1In_ok s.outs _ x _ (h1.stays RStr_kept hA))
  have HA := hide hA
  have HW : Hid (wrB s x = ((s.kind == 1 && (s.name.toList == x.toList)) || (s.kind == 3 && inB s.outs x))) := rfl
  generalize wrB s x = R at *
  clear hA h1
  generalize inB s.outs x = ib at *
  generalize s.outs.length = no at *
  generalize s.kind = kd at *
  generalize s.at_ = at' at *
  generalize s.name = nm at *
  by_cases h1 : kd = 1
  · have y1 : (kd == 1) = true := by simp [h1]
    have y3 : (kd == 3) = false := by simp [h1]
    rw [y1, y3, Bool.true_and, Bool.false_and, Bool.or_false] at HW
    clear h1
    cases hq : (nm.toList == x.toList)
    · rw [hq] at HW
      go_enter Tryz.func43, Tryz.ntmps43
      go_wp2
      go_ret
      exact ⟨ret_bl (unhide HW).symm, unhide HA⟩
    · rw [hq] at HW
      go_enter Tryz.func43, Tryz.ntmps43
      go_wp2
      go_ret
      exact ⟨ret_bl (unhide HW).symm, unhide HA⟩
  have y1 : (kd == 1) = false := by simp [h1]
  rw [y1, Bool.false_and, Bool.false_or] at HW
  clear h1
  by_cases h3 : kd = 3
  · have y3 : (kd == 3) = true := by simp [h3]
    rw [y3, Bool.true_and] at HW
    clear h3
    go_enter Tryz.func43, Tryz.ntmps43
    go_wp2_with fail
    refine (unhide HI).mono ?_
    rintro e w1 ⟨rfl, h9⟩
    obtain rfl := h9.symm
    go_wp2
    go_ret
    exact ⟨ret_bl (unhide HW).symm, unhide HA⟩
  · have y3 : (kd == 3) = false := by simp [h3]
    rw [y3, Bool.false_and] at HW
    clear h3
    go_enter Tryz.func43, Tryz.ntmps43
    go_wp2
    go_ret
    exact ⟨ret_bl (unhide HW).symm, unhide HA⟩

set_option maxRecDepth 20000 in
set_option maxHeartbeats 4000000 in
theorem l3StmOK_k5 (ks : List DClass) (k : DClass) (nm : ByteArray) (atv : Int) (outs : List ByteArray) (code : List DItem) (args : List (List DItem))  (a1 a2 a3 a4 a5 a6 mv ov cv av : Value) (w : World) (hm : SlAt 7 160 RClass 0 w mv ks) (h : ClassIn w k a1 a2 a3 a4 a5 a6) (h1 : SlAt 1 16 RStr 0 w ov outs) (h2 : SlAt 3 32 RItem 0 w cv code) (h3 : SlAt 1 24 RItems 0 w av args)
    (hin : ∀ j (hj : j < k.insts.length), 0 ≤ k.insts[j] ∧ k.insts[j] < ks.length) :
    Calls Tryz.prog 40 #[.agg #[mv], .agg #[.string k.name, a1, a2, a3, a4, a5, a6], .agg #[.int .i64 5, .string nm, .int .i64 atv, ov, cv, av]] w (Ans (.bool (stmB ks k ⟨5, nm, atv, outs, code, args⟩)) w) := by
  have HCO := hide (fun code v w' (hb : Below w.heap.size w w') hv => l3CodeOK_ok k code a1 a2 a3 a4 a5 a6 v w' (h.stays hb) hv)
  have HSE := hide (fun x w' (hb : Below w.heap.size w w') => l3Settable_ok k x a1 a2 a3 a4 a5 a6 w' (h.stays hb))
  have HVR := hide (fun w' (hb : Below w.heap.size w w') => l3Vars_ok k a1 a2 a3 a4 a5 a6 w' (h.stays hb).ins (h.stays hb).outs (h.stays hb).locs h.sum)
  have HIN := hide h.insts
  obtain ⟨b1, c1, rfl⟩ := h.ins.shape
  obtain ⟨b2, c2, rfl⟩ := h.outs.shape
  obtain ⟨b3, c3, rfl⟩ := h.locs.shape
  obtain ⟨b4, c4, rfl⟩ := h.mems.shape
  obtain ⟨b5, c5, rfl⟩ := h.insts.shape
  obtain ⟨b6, c6, rfl⟩ := h.body.shape
  obtain ⟨bm, cm, rfl⟩ := hm.shape
  obtain ⟨o1, p1, rfl⟩ := h1.shape
  obtain ⟨o2, p2, rfl⟩ := h2.shape
  obtain ⟨o3, p3, rfl⟩ := h3.shape
  have z1 := h1.lenM
  have z2 := h2.lenM
  have z3 := h3.lenM
  have z4 := h.mems.lenM
  have z5 := h.insts.lenM
  have z6 := hm.lenM
  have HO := hide h1
  have HC := hide h2
  have HAA := hide h3
  have HMM := hide hm
  clear h hm h1 h2 h3
  have hA : Below w.heap.size w (((w.alloc (.cells #[.slice bm ks.length cm] 29)).alloc (.cells #[.string k.name, .slice b1 k.ins.length c1, .slice b2 k.outs.length c2, .slice b3 k.locs.length c3, .slice b4 k.mems.length c4, .slice b5 k.insts.length c5, .slice b6 k.body.length c6] 40)).alloc (.cells #[.int .i64 5, .string nm, .int .i64 atv, .slice o1 outs.length p1, .slice o2 code.length p2, .slice o3 args.length p3] 47)) := (((Below.refl _ _).alloc (Nat.le_refl _) _).alloc (by simp) _).alloc (by simp only [World.size_alloc]; omega) _
  have hAz : (((w.alloc (.cells #[.slice bm ks.length cm] 29)).alloc (.cells #[.string k.name, .slice b1 k.ins.length c1, .slice b2 k.outs.length c2, .slice b3 k.locs.length c3, .slice b4 k.mems.length c4, .slice b5 k.insts.length c5, .slice b6 k.body.length c6] 40)).alloc (.cells #[.int .i64 5, .string nm, .int .i64 atv, .slice o1 outs.length p1, .slice o2 code.length p2, .slice o3 args.length p3] 47)).heap.size = w.heap.size + 3 := by simp
  have hB1 : BlkAt (((w.alloc (.cells #[.slice bm ks.length cm] 29)).alloc (.cells #[.string k.name, .slice b1 k.ins.length c1, .slice b2 k.outs.length c2, .slice b3 k.locs.length c3, .slice b4 k.mems.length c4, .slice b5 k.insts.length c5, .slice b6 k.body.length c6] 40)).alloc (.cells #[.int .i64 5, .string nm, .int .i64 atv, .slice o1 outs.length p1, .slice o2 code.length p2, .slice o3 args.length p3] 47)) w.heap.size 29 #[.slice bm ks.length cm] := (blk_box w #[.slice bm ks.length cm] 29).below (((Below.refl _ _).alloc (Nat.le_refl _) _).alloc (by simp) _) (by simp)
  have hB2 : BlkAt (((w.alloc (.cells #[.slice bm ks.length cm] 29)).alloc (.cells #[.string k.name, .slice b1 k.ins.length c1, .slice b2 k.outs.length c2, .slice b3 k.locs.length c3, .slice b4 k.mems.length c4, .slice b5 k.insts.length c5, .slice b6 k.body.length c6] 40)).alloc (.cells #[.int .i64 5, .string nm, .int .i64 atv, .slice o1 outs.length p1, .slice o2 code.length p2, .slice o3 args.length p3] 47)) (w.heap.size + 1) 40 #[.string k.name, .slice b1 k.ins.length c1, .slice b2 k.outs.length c2, .slice b3 k.locs.length c3, .slice b4 k.mems.length c4, .slice b5 k.insts.length c5, .slice b6 k.body.length c6] := by
    have h0 := blk_box (w.alloc (.cells #[.slice bm ks.length cm] 29)) #[.string k.name, .slice b1 k.ins.length c1, .slice b2 k.outs.length c2, .slice b3 k.locs.length c3, .slice b4 k.mems.length c4, .slice b5 k.insts.length c5, .slice b6 k.body.length c6] 40
    rw [show (w.alloc (.cells #[.slice bm ks.length cm] 29)).heap.size = w.heap.size + 1 from by simp] at h0
    exact h0.below ((Below.refl _ _).alloc (Nat.le_refl _) _) (by simp)
  have hB3 : BlkAt (((w.alloc (.cells #[.slice bm ks.length cm] 29)).alloc (.cells #[.string k.name, .slice b1 k.ins.length c1, .slice b2 k.outs.length c2, .slice b3 k.locs.length c3, .slice b4 k.mems.length c4, .slice b5 k.insts.length c5, .slice b6 k.body.length c6] 40)).alloc (.cells #[.int .i64 5, .string nm, .int .i64 atv, .slice o1 outs.length p1, .slice o2 code.length p2, .slice o3 args.length p3] 47)) (w.heap.size + 2) 47 #[.int .i64 5, .string nm, .int .i64 atv, .slice o1 outs.length p1, .slice o2 code.length p2, .slice o3 args.length p3] := by
    have h0 := blk_box ((w.alloc (.cells #[.slice bm ks.length cm] 29)).alloc (.cells #[.string k.name, .slice b1 k.ins.length c1, .slice b2 k.outs.length c2, .slice b3 k.locs.length c3, .slice b4 k.mems.length c4, .slice b5 k.insts.length c5, .slice b6 k.body.length c6] 40)) #[.int .i64 5, .string nm, .int .i64 atv, .slice o1 outs.length p1, .slice o2 code.length p2, .slice o3 args.length p3] 47
    rw [show ((w.alloc (.cells #[.slice bm ks.length cm] 29)).alloc (.cells #[.string k.name, .slice b1 k.ins.length c1, .slice b2 k.outs.length c2, .slice b3 k.locs.length c3, .slice b4 k.mems.length c4, .slice b5 k.insts.length c5, .slice b6 k.body.length c6] 40)).heap.size = w.heap.size + 2 from by simp] at h0
    exact h0
  obtain ⟨BX, hBX⟩ : ∃ BX : World → Prop, ∀ w', BX w' ↔ Below (w.heap.size + 3) (((w.alloc (.cells #[.slice bm ks.length cm] 29)).alloc (.cells #[.string k.name, .slice b1 k.ins.length c1, .slice b2 k.outs.length c2, .slice b3 k.locs.length c3, .slice b4 k.mems.length c4, .slice b5 k.insts.length c5, .slice b6 k.body.length c6] 40)).alloc (.cells #[.int .i64 5, .string nm, .int .i64 atv, .slice o1 outs.length p1, .slice o2 code.length p2, .slice o3 args.length p3] 47)) w' := ⟨_, fun _ => Iff.rfl⟩
  have HX1 : Hid (∀ w1, BX w1 → Below w.heap.size w w1) := fun w1 h => hA.trans (((hBX w1).1 h).mono (by omega))
  have HX2 : Hid (∀ w1 w2, BX w1 → Below w1.heap.size w1 w2 → BX w2) := fun w1 w2 h h2 => (hBX w2).2 (((hBX w1).1 h).trans (h2.mono (by have := ((hBX w1).1 h).size; omega)))
  have HX4 : Hid (∀ w1, BX w1 → w1.cell? ⟨w.heap.size, 0, none⟩ = some (.slice bm ks.length cm) ∧ w1.cell? ⟨w.heap.size + 1, 0, none⟩ = some (.string k.name) ∧ w1.cell? ⟨w.heap.size + 1, 1, none⟩ = some (.slice b1 k.ins.length c1) ∧ w1.cell? ⟨w.heap.size + 1, 2, none⟩ = some (.slice b2 k.outs.length c2) ∧ w1.cell? ⟨w.heap.size + 1, 3, none⟩ = some (.slice b3 k.locs.length c3) ∧ w1.cell? ⟨w.heap.size + 1, 4, none⟩ = some (.slice b4 k.mems.length c4) ∧ w1.cell? ⟨w.heap.size + 1, 5, none⟩ = some (.slice b5 k.insts.length c5) ∧ w1.cell? ⟨w.heap.size + 1, 6, none⟩ = some (.slice b6 k.body.length c6) ∧ w1.cell? ⟨w.heap.size + 2, 0, none⟩ = some (.int .i64 5) ∧ w1.cell? ⟨w.heap.size + 2, 1, none⟩ = some (.string nm) ∧ w1.cell? ⟨w.heap.size + 2, 2, none⟩ = some (.int .i64 atv) ∧ w1.cell? ⟨w.heap.size + 2, 3, none⟩ = some (.slice o1 outs.length p1) ∧ w1.cell? ⟨w.heap.size + 2, 4, none⟩ = some (.slice o2 code.length p2) ∧ w1.cell? ⟨w.heap.size + 2, 5, none⟩ = some (.slice o3 args.length p3)) := fun w1 h => ⟨(hB1.below ((hBX w1).1 h) (by omega)).cell (i := 0) (v := .slice bm ks.length cm) rfl, (hB2.below ((hBX w1).1 h) (by omega)).cell (i := 0) (v := .string k.name) rfl, (hB2.below ((hBX w1).1 h) (by omega)).cell (i := 1) (v := .slice b1 k.ins.length c1) rfl, (hB2.below ((hBX w1).1 h) (by omega)).cell (i := 2) (v := .slice b2 k.outs.length c2) rfl, (hB2.below ((hBX w1).1 h) (by omega)).cell (i := 3) (v := .slice b3 k.locs.length c3) rfl, (hB2.below ((hBX w1).1 h) (by omega)).cell (i := 4) (v := .slice b4 k.mems.length c4) rfl, (hB2.below ((hBX w1).1 h) (by omega)).cell (i := 5) (v := .slice b5 k.insts.length c5) rfl, (hB2.below ((hBX w1).1 h) (by omega)).cell (i := 6) (v := .slice b6 k.body.length c6) rfl, (hB3.below ((hBX w1).1 h) (by omega)).cell (i := 0) (v := .int .i64 5) rfl, (hB3.below ((hBX w1).1 h) (by omega)).cell (i := 1) (v := .string nm) rfl, (hB3.below ((hBX w1).1 h) (by omega)).cell (i := 2) (v := .int .i64 atv) rfl, (hB3.below ((hBX w1).1 h) (by omega)).cell (i := 3) (v := .slice o1 outs.length p1) rfl, (hB3.below ((hBX w1).1 h) (by omega)).cell (i := 4) (v := .slice o2 code.length p2) rfl, (hB3.below ((hBX w1).1 h) (by omega)).cell (i := 5) (v := .slice o3 args.length p3) rfl⟩
  have HX5 : Hid (∀ w1, BX w1 → w.heap.size + 3 ≤ w1.heap.size) := fun w1 h => by have := ((hBX w1).1 h).size; omega
  have HX0 : Hid (BX (((w.alloc (.cells #[.slice bm ks.length cm] 29)).alloc (.cells #[.string k.name, .slice b1 k.ins.length c1, .slice b2 k.outs.length c2, .slice b3 k.locs.length c3, .slice b4 k.mems.length c4, .slice b5 k.insts.length c5, .slice b6 k.body.length c6] 40)).alloc (.cells #[.int .i64 5, .string nm, .int .i64 atv, .slice o1 outs.length p1, .slice o2 code.length p2, .slice o3 args.length p3] 47))) := (hBX _).2 (Below.refl _ _)
  have HXd : Hid (BX (((w.alloc (.cells #[.slice bm ks.length cm] 29)).alloc (.cells #[.string k.name, .slice b1 k.ins.length c1, .slice b2 k.outs.length c2, .slice b3 k.locs.length c3, .slice b4 k.mems.length c4, .slice b5 k.insts.length c5, .slice b6 k.body.length c6] 40)).alloc (.cells #[.int .i64 5, .string nm, .int .i64 atv, .slice o1 outs.length p1, .slice o2 code.length p2, .slice o3 args.length p3] 47)).drew) := (hBX _).2 (Below.refl _ _).drew
  have HA := hide hA
  clear hA hAz hB1 hB2 hB3 hBX
  by_cases hq : nm.size = 0
  case neg =>
    have d4 := empty_no nm hq
    have d4' := isEmpty_no nm hq
    have HF := hide (stm_name ks k ⟨5, nm, atv, outs, code, args⟩ (by simp) hq)
    generalize stmB ks k ⟨5, nm, atv, outs, code, args⟩ = R at *
    clear hq
    go_enter Tryz.func40, Tryz.ntmps40
    go_wp2
    go_ret
    exact ⟨ret_bl (unhide HF).symm, unhide HA⟩
  have d4 := empty_yes nm hq
  have d4' := isEmpty_yes nm hq
  have H_name := hide hq
  clear hq
  by_cases hq : atv = 0
  case neg =>
    have d5 : (atv != 0) = true := by simp [hq]
    have HF := hide (stm_at ks k ⟨5, nm, atv, outs, code, args⟩ (by simp) (by simp) hq)
    generalize stmB ks k ⟨5, nm, atv, outs, code, args⟩ = R at *
    clear hq
    go_enter Tryz.func40, Tryz.ntmps40
    go_wp2
    go_ret
    exact ⟨ret_bl (unhide HF).symm, unhide HA⟩
  have d5 : (atv != 0) = false := by simp [hq]
  have H_at := hide hq
  clear hq
  by_cases hq : outs.length = 0
  case neg =>
    have d6 : ((outs.length : Int) != 0) = true := by rw [bne_iff_ne]; omega
    have HF := hide (stm_oa ks k ⟨5, nm, atv, outs, code, args⟩ (by simp) (Or.inl hq))
    generalize stmB ks k ⟨5, nm, atv, outs, code, args⟩ = R at *
    clear hq
    go_enter Tryz.func40, Tryz.ntmps40
    go_wp2
    go_ret
    exact ⟨ret_bl (unhide HF).symm, unhide HA⟩
  have d6 : ((outs.length : Int) != 0) = false := by rw [bne_eq_false_iff_eq]; omega
  have H_outs := hide hq
  clear hq
  by_cases hq : args.length = 0
  case neg =>
    have d7 : ((args.length : Int) != 0) = true := by rw [bne_iff_ne]; omega
    have HF := hide (stm_oa ks k ⟨5, nm, atv, outs, code, args⟩ (by simp) (Or.inr hq))
    generalize stmB ks k ⟨5, nm, atv, outs, code, args⟩ = R at *
    clear hq
    go_enter Tryz.func40, Tryz.ntmps40
    go_wp2
    go_ret
    exact ⟨ret_bl (unhide HF).symm, unhide HA⟩
  have d7 : ((args.length : Int) != 0) = false := by rw [bne_eq_false_iff_eq]; omega
  have H_args := hide hq
  clear hq
  by_cases hq : code.length = 0
  case neg =>
    have d8 : ((code.length : Int) != 0) = true := by rw [bne_iff_ne]; omega
    have HF := hide (stm_code ks k ⟨5, nm, atv, outs, code, args⟩ (by simp) (by simp) hq)
    generalize stmB ks k ⟨5, nm, atv, outs, code, args⟩ = R at *
    clear hq
    go_enter Tryz.func40, Tryz.ntmps40
    go_wp2
    go_ret
    exact ⟨ret_bl (unhide HF).symm, unhide HA⟩
  have d8 : ((code.length : Int) != 0) = false := by rw [bne_eq_false_iff_eq]; omega
  have H_code := hide hq
  clear hq
  have HF : Hid (stmB ks k ⟨5, nm, atv, outs, code, args⟩ = true) := (stm_good ks k ⟨5, nm, atv, outs, code, args⟩ (Or.inr (Or.inr (unhide H_name))) (Or.inr (Or.inr (unhide H_at))) (Or.inr ⟨unhide H_outs, unhide H_args⟩) (Or.inr (Or.inr (unhide H_code)))).trans (by unfold stmTail; simp)
  generalize stmB ks k ⟨5, nm, atv, outs, code, args⟩ = R at *
  go_enter Tryz.func40, Tryz.ntmps40
  go_wp2
  go_ret
  exact ⟨ret_bl (unhide HF).symm, unhide HA⟩

set_option maxRecDepth 20000 in
set_option maxHeartbeats 4000000 in
theorem l3StmOK_k6 (ks : List DClass) (k : DClass) (nm : ByteArray) (atv : Int) (outs : List ByteArray) (code : List DItem) (args : List (List DItem))  (a1 a2 a3 a4 a5 a6 mv ov cv av : Value) (w : World) (hm : SlAt 7 160 RClass 0 w mv ks) (h : ClassIn w k a1 a2 a3 a4 a5 a6) (h1 : SlAt 1 16 RStr 0 w ov outs) (h2 : SlAt 3 32 RItem 0 w cv code) (h3 : SlAt 1 24 RItems 0 w av args)
    (hin : ∀ j (hj : j < k.insts.length), 0 ≤ k.insts[j] ∧ k.insts[j] < ks.length) :
    Calls Tryz.prog 40 #[.agg #[mv], .agg #[.string k.name, a1, a2, a3, a4, a5, a6], .agg #[.int .i64 6, .string nm, .int .i64 atv, ov, cv, av]] w (Ans (.bool (stmB ks k ⟨6, nm, atv, outs, code, args⟩)) w) := by
  have HCO := hide (fun code v w' (hb : Below w.heap.size w w') hv => l3CodeOK_ok k code a1 a2 a3 a4 a5 a6 v w' (h.stays hb) hv)
  have HSE := hide (fun x w' (hb : Below w.heap.size w w') => l3Settable_ok k x a1 a2 a3 a4 a5 a6 w' (h.stays hb))
  have HVR := hide (fun w' (hb : Below w.heap.size w w') => l3Vars_ok k a1 a2 a3 a4 a5 a6 w' (h.stays hb).ins (h.stays hb).outs (h.stays hb).locs h.sum)
  have HIN := hide h.insts
  obtain ⟨b1, c1, rfl⟩ := h.ins.shape
  obtain ⟨b2, c2, rfl⟩ := h.outs.shape
  obtain ⟨b3, c3, rfl⟩ := h.locs.shape
  obtain ⟨b4, c4, rfl⟩ := h.mems.shape
  obtain ⟨b5, c5, rfl⟩ := h.insts.shape
  obtain ⟨b6, c6, rfl⟩ := h.body.shape
  obtain ⟨bm, cm, rfl⟩ := hm.shape
  obtain ⟨o1, p1, rfl⟩ := h1.shape
  obtain ⟨o2, p2, rfl⟩ := h2.shape
  obtain ⟨o3, p3, rfl⟩ := h3.shape
  have z1 := h1.lenM
  have z2 := h2.lenM
  have z3 := h3.lenM
  have z4 := h.mems.lenM
  have z5 := h.insts.lenM
  have z6 := hm.lenM
  have HO := hide h1
  have HC := hide h2
  have HAA := hide h3
  have HMM := hide hm
  clear h hm h1 h2 h3
  have hA : Below w.heap.size w (((w.alloc (.cells #[.slice bm ks.length cm] 29)).alloc (.cells #[.string k.name, .slice b1 k.ins.length c1, .slice b2 k.outs.length c2, .slice b3 k.locs.length c3, .slice b4 k.mems.length c4, .slice b5 k.insts.length c5, .slice b6 k.body.length c6] 40)).alloc (.cells #[.int .i64 6, .string nm, .int .i64 atv, .slice o1 outs.length p1, .slice o2 code.length p2, .slice o3 args.length p3] 47)) := (((Below.refl _ _).alloc (Nat.le_refl _) _).alloc (by simp) _).alloc (by simp only [World.size_alloc]; omega) _
  have hAz : (((w.alloc (.cells #[.slice bm ks.length cm] 29)).alloc (.cells #[.string k.name, .slice b1 k.ins.length c1, .slice b2 k.outs.length c2, .slice b3 k.locs.length c3, .slice b4 k.mems.length c4, .slice b5 k.insts.length c5, .slice b6 k.body.length c6] 40)).alloc (.cells #[.int .i64 6, .string nm, .int .i64 atv, .slice o1 outs.length p1, .slice o2 code.length p2, .slice o3 args.length p3] 47)).heap.size = w.heap.size + 3 := by simp
  have hB1 : BlkAt (((w.alloc (.cells #[.slice bm ks.length cm] 29)).alloc (.cells #[.string k.name, .slice b1 k.ins.length c1, .slice b2 k.outs.length c2, .slice b3 k.locs.length c3, .slice b4 k.mems.length c4, .slice b5 k.insts.length c5, .slice b6 k.body.length c6] 40)).alloc (.cells #[.int .i64 6, .string nm, .int .i64 atv, .slice o1 outs.length p1, .slice o2 code.length p2, .slice o3 args.length p3] 47)) w.heap.size 29 #[.slice bm ks.length cm] := (blk_box w #[.slice bm ks.length cm] 29).below (((Below.refl _ _).alloc (Nat.le_refl _) _).alloc (by simp) _) (by simp)
  have hB2 : BlkAt (((w.alloc (.cells #[.slice bm ks.length cm] 29)).alloc (.cells #[.string k.name, .slice b1 k.ins.length c1, .slice b2 k.outs.length c2, .slice b3 k.locs.length c3, .slice b4 k.mems.length c4, .slice b5 k.insts.length c5, .slice b6 k.body.length c6] 40)).alloc (.cells #[.int .i64 6, .string nm, .int .i64 atv, .slice o1 outs.length p1, .slice o2 code.length p2, .slice o3 args.length p3] 47)) (w.heap.size + 1) 40 #[.string k.name, .slice b1 k.ins.length c1, .slice b2 k.outs.length c2, .slice b3 k.locs.length c3, .slice b4 k.mems.length c4, .slice b5 k.insts.length c5, .slice b6 k.body.length c6] := by
    have h0 := blk_box (w.alloc (.cells #[.slice bm ks.length cm] 29)) #[.string k.name, .slice b1 k.ins.length c1, .slice b2 k.outs.length c2, .slice b3 k.locs.length c3, .slice b4 k.mems.length c4, .slice b5 k.insts.length c5, .slice b6 k.body.length c6] 40
    rw [show (w.alloc (.cells #[.slice bm ks.length cm] 29)).heap.size = w.heap.size + 1 from by simp] at h0
    exact h0.below ((Below.refl _ _).alloc (Nat.le_refl _) _) (by simp)
  have hB3 : BlkAt (((w.alloc (.cells #[.slice bm ks.length cm] 29)).alloc (.cells #[.string k.name, .slice b1 k.ins.length c1, .slice b2 k.outs.length c2, .slice b3 k.locs.length c3, .slice b4 k.mems.length c4, .slice b5 k.insts.length c5, .slice b6 k.body.length c6] 40)).alloc (.cells #[.int .i64 6, .string nm, .int .i64 atv, .slice o1 outs.length p1, .slice o2 code.length p2, .slice o3 args.length p3] 47)) (w.heap.size + 2) 47 #[.int .i64 6, .string nm, .int .i64 atv, .slice o1 outs.length p1, .slice o2 code.length p2, .slice o3 args.length p3] := by
    have h0 := blk_box ((w.alloc (.cells #[.slice bm ks.length cm] 29)).alloc (.cells #[.string k.name, .slice b1 k.ins.length c1, .slice b2 k.outs.length c2, .slice b3 k.locs.length c3, .slice b4 k.mems.length c4, .slice b5 k.insts.length c5, .slice b6 k.body.length c6] 40)) #[.int .i64 6, .string nm, .int .i64 atv, .slice o1 outs.length p1, .slice o2 code.length p2, .slice o3 args.length p3] 47
    rw [show ((w.alloc (.cells #[.slice bm ks.length cm] 29)).alloc (.cells #[.string k.name, .slice b1 k.ins.length c1, .slice b2 k.outs.length c2, .slice b3 k.locs.length c3, .slice b4 k.mems.length c4, .slice b5 k.insts.length c5, .slice b6 k.body.length c6] 40)).heap.size = w.heap.size + 2 from by simp] at h0
    exact h0
  obtain ⟨BX, hBX⟩ : ∃ BX : World → Prop, ∀ w', BX w' ↔ Below (w.heap.size + 3) (((w.alloc (.cells #[.slice bm ks.length cm] 29)).alloc (.cells #[.string k.name, .slice b1 k.ins.length c1, .slice b2 k.outs.length c2, .slice b3 k.locs.length c3, .slice b4 k.mems.length c4, .slice b5 k.insts.length c5, .slice b6 k.body.length c6] 40)).alloc (.cells #[.int .i64 6, .string nm, .int .i64 atv, .slice o1 outs.length p1, .slice o2 code.length p2, .slice o3 args.length p3] 47)) w' := ⟨_, fun _ => Iff.rfl⟩
  have HX1 : Hid (∀ w1, BX w1 → Below w.heap.size w w1) := fun w1 h => hA.trans (((hBX w1).1 h).mono (by omega))
  have HX2 : Hid (∀ w1 w2, BX w1 → Below w1.heap.size w1 w2 → BX w2) := fun w1 w2 h h2 => (hBX w2).2 (((hBX w1).1 h).trans (h2.mono (by have := ((hBX w1).1 h).size; omega)))
  have HX4 : Hid (∀ w1, BX w1 → w1.cell? ⟨w.heap.size, 0, none⟩ = some (.slice bm ks.length cm) ∧ w1.cell? ⟨w.heap.size + 1, 0, none⟩ = some (.string k.name) ∧ w1.cell? ⟨w.heap.size + 1, 1, none⟩ = some (.slice b1 k.ins.length c1) ∧ w1.cell? ⟨w.heap.size + 1, 2, none⟩ = some (.slice b2 k.outs.length c2) ∧ w1.cell? ⟨w.heap.size + 1, 3, none⟩ = some (.slice b3 k.locs.length c3) ∧ w1.cell? ⟨w.heap.size + 1, 4, none⟩ = some (.slice b4 k.mems.length c4) ∧ w1.cell? ⟨w.heap.size + 1, 5, none⟩ = some (.slice b5 k.insts.length c5) ∧ w1.cell? ⟨w.heap.size + 1, 6, none⟩ = some (.slice b6 k.body.length c6) ∧ w1.cell? ⟨w.heap.size + 2, 0, none⟩ = some (.int .i64 6) ∧ w1.cell? ⟨w.heap.size + 2, 1, none⟩ = some (.string nm) ∧ w1.cell? ⟨w.heap.size + 2, 2, none⟩ = some (.int .i64 atv) ∧ w1.cell? ⟨w.heap.size + 2, 3, none⟩ = some (.slice o1 outs.length p1) ∧ w1.cell? ⟨w.heap.size + 2, 4, none⟩ = some (.slice o2 code.length p2) ∧ w1.cell? ⟨w.heap.size + 2, 5, none⟩ = some (.slice o3 args.length p3)) := fun w1 h => ⟨(hB1.below ((hBX w1).1 h) (by omega)).cell (i := 0) (v := .slice bm ks.length cm) rfl, (hB2.below ((hBX w1).1 h) (by omega)).cell (i := 0) (v := .string k.name) rfl, (hB2.below ((hBX w1).1 h) (by omega)).cell (i := 1) (v := .slice b1 k.ins.length c1) rfl, (hB2.below ((hBX w1).1 h) (by omega)).cell (i := 2) (v := .slice b2 k.outs.length c2) rfl, (hB2.below ((hBX w1).1 h) (by omega)).cell (i := 3) (v := .slice b3 k.locs.length c3) rfl, (hB2.below ((hBX w1).1 h) (by omega)).cell (i := 4) (v := .slice b4 k.mems.length c4) rfl, (hB2.below ((hBX w1).1 h) (by omega)).cell (i := 5) (v := .slice b5 k.insts.length c5) rfl, (hB2.below ((hBX w1).1 h) (by omega)).cell (i := 6) (v := .slice b6 k.body.length c6) rfl, (hB3.below ((hBX w1).1 h) (by omega)).cell (i := 0) (v := .int .i64 6) rfl, (hB3.below ((hBX w1).1 h) (by omega)).cell (i := 1) (v := .string nm) rfl, (hB3.below ((hBX w1).1 h) (by omega)).cell (i := 2) (v := .int .i64 atv) rfl, (hB3.below ((hBX w1).1 h) (by omega)).cell (i := 3) (v := .slice o1 outs.length p1) rfl, (hB3.below ((hBX w1).1 h) (by omega)).cell (i := 4) (v := .slice o2 code.length p2) rfl, (hB3.below ((hBX w1).1 h) (by omega)).cell (i := 5) (v := .slice o3 args.length p3) rfl⟩
  have HX5 : Hid (∀ w1, BX w1 → w.heap.size + 3 ≤ w1.heap.size) := fun w1 h => by have := ((hBX w1).1 h).size; omega
  have HX0 : Hid (BX (((w.alloc (.cells #[.slice bm ks.length cm] 29)).alloc (.cells #[.string k.name, .slice b1 k.ins.length c1, .slice b2 k.outs.length c2, .slice b3 k.locs.length c3, .slice b4 k.mems.length c4, .slice b5 k.insts.length c5, .slice b6 k.body.length c6] 40)).alloc (.cells #[.int .i64 6, .string nm, .int .i64 atv, .slice o1 outs.length p1, .slice o2 code.length p2, .slice o3 args.length p3] 47))) := (hBX _).2 (Below.refl _ _)
  have HXd : Hid (BX (((w.alloc (.cells #[.slice bm ks.length cm] 29)).alloc (.cells #[.string k.name, .slice b1 k.ins.length c1, .slice b2 k.outs.length c2, .slice b3 k.locs.length c3, .slice b4 k.mems.length c4, .slice b5 k.insts.length c5, .slice b6 k.body.length c6] 40)).alloc (.cells #[.int .i64 6, .string nm, .int .i64 atv, .slice o1 outs.length p1, .slice o2 code.length p2, .slice o3 args.length p3] 47)).drew) := (hBX _).2 (Below.refl _ _).drew
  have HA := hide hA
  clear hA hAz hB1 hB2 hB3 hBX
  by_cases hq : nm.size = 0
  case neg =>
    have d4 := empty_no nm hq
    have d4' := isEmpty_no nm hq
    have HF := hide (stm_name ks k ⟨6, nm, atv, outs, code, args⟩ (by simp) hq)
    generalize stmB ks k ⟨6, nm, atv, outs, code, args⟩ = R at *
    clear hq
    go_enter Tryz.func40, Tryz.ntmps40
    go_wp2
    go_ret
    exact ⟨ret_bl (unhide HF).symm, unhide HA⟩
  have d4 := empty_yes nm hq
  have d4' := isEmpty_yes nm hq
  have H_name := hide hq
  clear hq
  by_cases hq : atv = 0
  case neg =>
    have d5 : (atv != 0) = true := by simp [hq]
    have HF := hide (stm_at ks k ⟨6, nm, atv, outs, code, args⟩ (by simp) (by simp) hq)
    generalize stmB ks k ⟨6, nm, atv, outs, code, args⟩ = R at *
    clear hq
    go_enter Tryz.func40, Tryz.ntmps40
    go_wp2
    go_ret
    exact ⟨ret_bl (unhide HF).symm, unhide HA⟩
  have d5 : (atv != 0) = false := by simp [hq]
  have H_at := hide hq
  clear hq
  by_cases hq : outs.length = 0
  case neg =>
    have d6 : ((outs.length : Int) != 0) = true := by rw [bne_iff_ne]; omega
    have HF := hide (stm_oa ks k ⟨6, nm, atv, outs, code, args⟩ (by simp) (Or.inl hq))
    generalize stmB ks k ⟨6, nm, atv, outs, code, args⟩ = R at *
    clear hq
    go_enter Tryz.func40, Tryz.ntmps40
    go_wp2
    go_ret
    exact ⟨ret_bl (unhide HF).symm, unhide HA⟩
  have d6 : ((outs.length : Int) != 0) = false := by rw [bne_eq_false_iff_eq]; omega
  have H_outs := hide hq
  clear hq
  by_cases hq : args.length = 0
  case neg =>
    have d7 : ((args.length : Int) != 0) = true := by rw [bne_iff_ne]; omega
    have HF := hide (stm_oa ks k ⟨6, nm, atv, outs, code, args⟩ (by simp) (Or.inr hq))
    generalize stmB ks k ⟨6, nm, atv, outs, code, args⟩ = R at *
    clear hq
    go_enter Tryz.func40, Tryz.ntmps40
    go_wp2
    go_ret
    exact ⟨ret_bl (unhide HF).symm, unhide HA⟩
  have d7 : ((args.length : Int) != 0) = false := by rw [bne_eq_false_iff_eq]; omega
  have H_args := hide hq
  clear hq
  by_cases hq : code.length = 0
  case neg =>
    have d8 : ((code.length : Int) != 0) = true := by rw [bne_iff_ne]; omega
    have HF := hide (stm_code ks k ⟨6, nm, atv, outs, code, args⟩ (by simp) (by simp) hq)
    generalize stmB ks k ⟨6, nm, atv, outs, code, args⟩ = R at *
    clear hq
    go_enter Tryz.func40, Tryz.ntmps40
    go_wp2
    go_ret
    exact ⟨ret_bl (unhide HF).symm, unhide HA⟩
  have d8 : ((code.length : Int) != 0) = false := by rw [bne_eq_false_iff_eq]; omega
  have H_code := hide hq
  clear hq
  have HF : Hid (stmB ks k ⟨6, nm, atv, outs, code, args⟩ = true) := (stm_good ks k ⟨6, nm, atv, outs, code, args⟩ (Or.inr (Or.inr (unhide H_name))) (Or.inr (Or.inr (unhide H_at))) (Or.inr ⟨unhide H_outs, unhide H_args⟩) (Or.inr (Or.inr (unhide H_code)))).trans (by unfold stmTail; simp)
  generalize stmB ks k ⟨6, nm, atv, outs, code, args⟩ = R at *
  go_enter Tryz.func40, Tryz.ntmps40
  go_wp2
  go_ret
  exact ⟨ret_bl (unhide HF).symm, unhide HA⟩

set_option maxRecDepth 20000 in
set_option maxHeartbeats 4000000 in
theorem l3StmOK_other (ks : List DClass) (k : DClass) (nm : ByteArray) (atv : Int) (outs : List ByteArray) (code : List DItem) (args : List (List DItem)) (kd : Int) (hkd : kd ≠ 1 ∧ kd ≠ 2 ∧ kd ≠ 3 ∧ kd ≠ 4 ∧ kd ≠ 5 ∧ kd ≠ 6) (a1 a2 a3 a4 a5 a6 mv ov cv av : Value) (w : World) (hm : SlAt 7 160 RClass 0 w mv ks) (h : ClassIn w k a1 a2 a3 a4 a5 a6) (h1 : SlAt 1 16 RStr 0 w ov outs) (h2 : SlAt 3 32 RItem 0 w cv code) (h3 : SlAt 1 24 RItems 0 w av args)
    (hin : ∀ j (hj : j < k.insts.length), 0 ≤ k.insts[j] ∧ k.insts[j] < ks.length) :
    Calls Tryz.prog 40 #[.agg #[mv], .agg #[.string k.name, a1, a2, a3, a4, a5, a6], .agg #[.int .i64 kd, .string nm, .int .i64 atv, ov, cv, av]] w (Ans (.bool (stmB ks k ⟨kd, nm, atv, outs, code, args⟩)) w) := by
  have HCO := hide (fun code v w' (hb : Below w.heap.size w w') hv => l3CodeOK_ok k code a1 a2 a3 a4 a5 a6 v w' (h.stays hb) hv)
  have HSE := hide (fun x w' (hb : Below w.heap.size w w') => l3Settable_ok k x a1 a2 a3 a4 a5 a6 w' (h.stays hb))
  have HVR := hide (fun w' (hb : Below w.heap.size w w') => l3Vars_ok k a1 a2 a3 a4 a5 a6 w' (h.stays hb).ins (h.stays hb).outs (h.stays hb).locs h.sum)
  have HIN := hide h.insts
  obtain ⟨b1, c1, rfl⟩ := h.ins.shape
  obtain ⟨b2, c2, rfl⟩ := h.outs.shape
  obtain ⟨b3, c3, rfl⟩ := h.locs.shape
  obtain ⟨b4, c4, rfl⟩ := h.mems.shape
  obtain ⟨b5, c5, rfl⟩ := h.insts.shape
  obtain ⟨b6, c6, rfl⟩ := h.body.shape
  obtain ⟨bm, cm, rfl⟩ := hm.shape
  obtain ⟨o1, p1, rfl⟩ := h1.shape
  obtain ⟨o2, p2, rfl⟩ := h2.shape
  obtain ⟨o3, p3, rfl⟩ := h3.shape
  have z1 := h1.lenM
  have z2 := h2.lenM
  have z3 := h3.lenM
  have z4 := h.mems.lenM
  have z5 := h.insts.lenM
  have z6 := hm.lenM
  have HO := hide h1
  have HC := hide h2
  have HAA := hide h3
  have HMM := hide hm
  clear h hm h1 h2 h3
  have hA : Below w.heap.size w (((w.alloc (.cells #[.slice bm ks.length cm] 29)).alloc (.cells #[.string k.name, .slice b1 k.ins.length c1, .slice b2 k.outs.length c2, .slice b3 k.locs.length c3, .slice b4 k.mems.length c4, .slice b5 k.insts.length c5, .slice b6 k.body.length c6] 40)).alloc (.cells #[.int .i64 kd, .string nm, .int .i64 atv, .slice o1 outs.length p1, .slice o2 code.length p2, .slice o3 args.length p3] 47)) := (((Below.refl _ _).alloc (Nat.le_refl _) _).alloc (by simp) _).alloc (by simp only [World.size_alloc]; omega) _
  have hAz : (((w.alloc (.cells #[.slice bm ks.length cm] 29)).alloc (.cells #[.string k.name, .slice b1 k.ins.length c1, .slice b2 k.outs.length c2, .slice b3 k.locs.length c3, .slice b4 k.mems.length c4, .slice b5 k.insts.length c5, .slice b6 k.body.length c6] 40)).alloc (.cells #[.int .i64 kd, .string nm, .int .i64 atv, .slice o1 outs.length p1, .slice o2 code.length p2, .slice o3 args.length p3] 47)).heap.size = w.heap.size + 3 := by simp
  have hB1 : BlkAt (((w.alloc (.cells #[.slice bm ks.length cm] 29)).alloc (.cells #[.string k.name, .slice b1 k.ins.length c1, .slice b2 k.outs.length c2, .slice b3 k.locs.length c3, .slice b4 k.mems.length c4, .slice b5 k.insts.length c5, .slice b6 k.body.length c6] 40)).alloc (.cells #[.int .i64 kd, .string nm, .int .i64 atv, .slice o1 outs.length p1, .slice o2 code.length p2, .slice o3 args.length p3] 47)) w.heap.size 29 #[.slice bm ks.length cm] := (blk_box w #[.slice bm ks.length cm] 29).below (((Below.refl _ _).alloc (Nat.le_refl _) _).alloc (by simp) _) (by simp)
  have hB2 : BlkAt (((w.alloc (.cells #[.slice bm ks.length cm] 29)).alloc (.cells #[.string k.name, .slice b1 k.ins.length c1, .slice b2 k.outs.length c2, .slice b3 k.locs.length c3, .slice b4 k.mems.length c4, .slice b5 k.insts.length c5, .slice b6 k.body.length c6] 40)).alloc (.cells #[.int .i64 kd, .string nm, .int .i64 atv, .slice o1 outs.length p1, .slice o2 code.length p2, .slice o3 args.length p3] 47)) (w.heap.size + 1) 40 #[.string k.name, .slice b1 k.ins.length c1, .slice b2 k.outs.length c2, .slice b3 k.locs.length c3, .slice b4 k.mems.length c4, .slice b5 k.insts.length c5, .slice b6 k.body.length c6] := by
    have h0 := blk_box (w.alloc (.cells #[.slice bm ks.length cm] 29)) #[.string k.name, .slice b1 k.ins.length c1, .slice b2 k.outs.length c2, .slice b3 k.locs.length c3, .slice b4 k.mems.length c4, .slice b5 k.insts.length c5, .slice b6 k.body.length c6] 40
    rw [show (w.alloc (.cells #[.slice bm ks.length cm] 29)).heap.size = w.heap.size + 1 from by simp] at h0
    exact h0.below ((Below.refl _ _).alloc (Nat.le_refl _) _) (by simp)
  have hB3 : BlkAt (((w.alloc (.cells #[.slice bm ks.length cm] 29)).alloc (.cells #[.string k.name, .slice b1 k.ins.length c1, .slice b2 k.outs.length c2, .slice b3 k.locs.length c3, .slice b4 k.mems.length c4, .slice b5 k.insts.length c5, .slice b6 k.body.length c6] 40)).alloc (.cells #[.int .i64 kd, .string nm, .int .i64 atv, .slice o1 outs.length p1, .slice o2 code.length p2, .slice o3 args.length p3] 47)) (w.heap.size + 2) 47 #[.int .i64 kd, .string nm, .int .i64 atv, .slice o1 outs.length p1, .slice o2 code.length p2, .slice o3 args.length p3] := by
    have h0 := blk_box ((w.alloc (.cells #[.slice bm ks.length cm] 29)).alloc (.cells #[.string k.name, .slice b1 k.ins.length c1, .slice b2 k.outs.length c2, .slice b3 k.locs.length c3, .slice b4 k.mems.length c4, .slice b5 k.insts.length c5, .slice b6 k.body.length c6] 40)) #[.int .i64 kd, .string nm, .int .i64 atv, .slice o1 outs.length p1, .slice o2 code.length p2, .slice o3 args.length p3] 47
    rw [show ((w.alloc (.cells #[.slice bm ks.length cm] 29)).alloc (.cells #[.string k.name, .slice b1 k.ins.length c1, .slice b2 k.outs.length c2, .slice b3 k.locs.length c3, .slice b4 k.mems.length c4, .slice b5 k.insts.length c5, .slice b6 k.body.length c6] 40)).heap.size = w.heap.size + 2 from by simp] at h0
    exact h0
  obtain ⟨BX, hBX⟩ : ∃ BX : World → Prop, ∀ w', BX w' ↔ Below (w.heap.size + 3) (((w.alloc (.cells #[.slice bm ks.length cm] 29)).alloc (.cells #[.string k.name, .slice b1 k.ins.length c1, .slice b2 k.outs.length c2, .slice b3 k.locs.length c3, .slice b4 k.mems.length c4, .slice b5 k.insts.length c5, .slice b6 k.body.length c6] 40)).alloc (.cells #[.int .i64 kd, .string nm, .int .i64 atv, .slice o1 outs.length p1, .slice o2 code.length p2, .slice o3 args.length p3] 47)) w' := ⟨_, fun _ => Iff.rfl⟩
  have HX1 : Hid (∀ w1, BX w1 → Below w.heap.size w w1) := fun w1 h => hA.trans (((hBX w1).1 h).mono (by omega))
  have HX2 : Hid (∀ w1 w2, BX w1 → Below w1.heap.size w1 w2 → BX w2) := fun w1 w2 h h2 => (hBX w2).2 (((hBX w1).1 h).trans (h2.mono (by have := ((hBX w1).1 h).size; omega)))
  have HX4 : Hid (∀ w1, BX w1 → w1.cell? ⟨w.heap.size, 0, none⟩ = some (.slice bm ks.length cm) ∧ w1.cell? ⟨w.heap.size + 1, 0, none⟩ = some (.string k.name) ∧ w1.cell? ⟨w.heap.size + 1, 1, none⟩ = some (.slice b1 k.ins.length c1) ∧ w1.cell? ⟨w.heap.size + 1, 2, none⟩ = some (.slice b2 k.outs.length c2) ∧ w1.cell? ⟨w.heap.size + 1, 3, none⟩ = some (.slice b3 k.locs.length c3) ∧ w1.cell? ⟨w.heap.size + 1, 4, none⟩ = some (.slice b4 k.mems.length c4) ∧ w1.cell? ⟨w.heap.size + 1, 5, none⟩ = some (.slice b5 k.insts.length c5) ∧ w1.cell? ⟨w.heap.size + 1, 6, none⟩ = some (.slice b6 k.body.length c6) ∧ w1.cell? ⟨w.heap.size + 2, 0, none⟩ = some (.int .i64 kd) ∧ w1.cell? ⟨w.heap.size + 2, 1, none⟩ = some (.string nm) ∧ w1.cell? ⟨w.heap.size + 2, 2, none⟩ = some (.int .i64 atv) ∧ w1.cell? ⟨w.heap.size + 2, 3, none⟩ = some (.slice o1 outs.length p1) ∧ w1.cell? ⟨w.heap.size + 2, 4, none⟩ = some (.slice o2 code.length p2) ∧ w1.cell? ⟨w.heap.size + 2, 5, none⟩ = some (.slice o3 args.length p3)) := fun w1 h => ⟨(hB1.below ((hBX w1).1 h) (by omega)).cell (i := 0) (v := .slice bm ks.length cm) rfl, (hB2.below ((hBX w1).1 h) (by omega)).cell (i := 0) (v := .string k.name) rfl, (hB2.below ((hBX w1).1 h) (by omega)).cell (i := 1) (v := .slice b1 k.ins.length c1) rfl, (hB2.below ((hBX w1).1 h) (by omega)).cell (i := 2) (v := .slice b2 k.outs.length c2) rfl, (hB2.below ((hBX w1).1 h) (by omega)).cell (i := 3) (v := .slice b3 k.locs.length c3) rfl, (hB2.below ((hBX w1).1 h) (by omega)).cell (i := 4) (v := .slice b4 k.mems.length c4) rfl, (hB2.below ((hBX w1).1 h) (by omega)).cell (i := 5) (v := .slice b5 k.insts.length c5) rfl, (hB2.below ((hBX w1).1 h) (by omega)).cell (i := 6) (v := .slice b6 k.body.length c6) rfl, (hB3.below ((hBX w1).1 h) (by omega)).cell (i := 0) (v := .int .i64 kd) rfl, (hB3.below ((hBX w1).1 h) (by omega)).cell (i := 1) (v := .string nm) rfl, (hB3.below ((hBX w1).1 h) (by omega)).cell (i := 2) (v := .int .i64 atv) rfl, (hB3.below ((hBX w1).1 h) (by omega)).cell (i := 3) (v := .slice o1 outs.length p1) rfl, (hB3.below ((hBX w1).1 h) (by omega)).cell (i := 4) (v := .slice o2 code.length p2) rfl, (hB3.below ((hBX w1).1 h) (by omega)).cell (i := 5) (v := .slice o3 args.length p3) rfl⟩
  have HX5 : Hid (∀ w1, BX w1 → w.heap.size + 3 ≤ w1.heap.size) := fun w1 h => by have := ((hBX w1).1 h).size; omega
  have HX0 : Hid (BX (((w.alloc (.cells #[.slice bm ks.length cm] 29)).alloc (.cells #[.string k.name, .slice b1 k.ins.length c1, .slice b2 k.outs.length c2, .slice b3 k.locs.length c3, .slice b4 k.mems.length c4, .slice b5 k.insts.length c5, .slice b6 k.body.length c6] 40)).alloc (.cells #[.int .i64 kd, .string nm, .int .i64 atv, .slice o1 outs.length p1, .slice o2 code.length p2, .slice o3 args.length p3] 47))) := (hBX _).2 (Below.refl _ _)
  have HXd : Hid (BX (((w.alloc (.cells #[.slice bm ks.length cm] 29)).alloc (.cells #[.string k.name, .slice b1 k.ins.length c1, .slice b2 k.outs.length c2, .slice b3 k.locs.length c3, .slice b4 k.mems.length c4, .slice b5 k.insts.length c5, .slice b6 k.body.length c6] 40)).alloc (.cells #[.int .i64 kd, .string nm, .int .i64 atv, .slice o1 outs.length p1, .slice o2 code.length p2, .slice o3 args.length p3] 47)).drew) := (hBX _).2 (Below.refl _ _).drew
  have HA := hide hA
  clear hA hAz hB1 hB2 hB3 hBX
  have y1 : (kd == 1) = false := by rw [beq_eq_false_iff_ne]; omega
  have yy1 : (kd != 1) = true := by simp; omega
  have y2 : (kd == 2) = false := by rw [beq_eq_false_iff_ne]; omega
  have yy2 : (kd != 2) = true := by simp; omega
  have y3 : (kd == 3) = false := by rw [beq_eq_false_iff_ne]; omega
  have yy3 : (kd != 3) = true := by simp; omega
  have y4 : (kd == 4) = false := by rw [beq_eq_false_iff_ne]; omega
  have yy4 : (kd != 4) = true := by simp; omega
  have y5 : (kd == 5) = false := by rw [beq_eq_false_iff_ne]; omega
  have yy5 : (kd != 5) = true := by simp; omega
  have y6 : (kd == 6) = false := by rw [beq_eq_false_iff_ne]; omega
  have yy6 : (kd != 6) = true := by simp; omega
  by_cases hq : nm.size = 0
  case neg =>
    have d4 := empty_no nm hq
    have d4' := isEmpty_no nm hq
    have HF := hide (stm_name ks k ⟨kd, nm, atv, outs, code, args⟩ (by simp only; omega) hq)
    generalize stmB ks k ⟨kd, nm, atv, outs, code, args⟩ = R at *
    clear hq
    go_enter Tryz.func40, Tryz.ntmps40
    go_wp2
    go_ret
    exact ⟨ret_bl (unhide HF).symm, unhide HA⟩
  have d4 := empty_yes nm hq
  have d4' := isEmpty_yes nm hq
  have H_name := hide hq
  clear hq
  by_cases hq : atv = 0
  case neg =>
    have d5 : (atv != 0) = true := by simp [hq]
    have HF := hide (stm_at ks k ⟨kd, nm, atv, outs, code, args⟩ (by simp only; omega) (by simp only; omega) hq)
    generalize stmB ks k ⟨kd, nm, atv, outs, code, args⟩ = R at *
    clear hq
    go_enter Tryz.func40, Tryz.ntmps40
    go_wp2
    go_ret
    exact ⟨ret_bl (unhide HF).symm, unhide HA⟩
  have d5 : (atv != 0) = false := by simp [hq]
  have H_at := hide hq
  clear hq
  by_cases hq : outs.length = 0
  case neg =>
    have d6 : ((outs.length : Int) != 0) = true := by rw [bne_iff_ne]; omega
    have HF := hide (stm_oa ks k ⟨kd, nm, atv, outs, code, args⟩ (by simp only; omega) (Or.inl hq))
    generalize stmB ks k ⟨kd, nm, atv, outs, code, args⟩ = R at *
    clear hq
    go_enter Tryz.func40, Tryz.ntmps40
    go_wp2
    go_ret
    exact ⟨ret_bl (unhide HF).symm, unhide HA⟩
  have d6 : ((outs.length : Int) != 0) = false := by rw [bne_eq_false_iff_eq]; omega
  have H_outs := hide hq
  clear hq
  by_cases hq : args.length = 0
  case neg =>
    have d7 : ((args.length : Int) != 0) = true := by rw [bne_iff_ne]; omega
    have HF := hide (stm_oa ks k ⟨kd, nm, atv, outs, code, args⟩ (by simp only; omega) (Or.inr hq))
    generalize stmB ks k ⟨kd, nm, atv, outs, code, args⟩ = R at *
    clear hq
    go_enter Tryz.func40, Tryz.ntmps40
    go_wp2
    go_ret
    exact ⟨ret_bl (unhide HF).symm, unhide HA⟩
  have d7 : ((args.length : Int) != 0) = false := by rw [bne_eq_false_iff_eq]; omega
  have H_args := hide hq
  clear hq
  by_cases hq : code.length = 0
  case neg =>
    have d8 : ((code.length : Int) != 0) = true := by rw [bne_iff_ne]; omega
    have HF := hide (stm_code ks k ⟨kd, nm, atv, outs, code, args⟩ (by simp only; omega) (by simp only; omega) hq)
    generalize stmB ks k ⟨kd, nm, atv, outs, code, args⟩ = R at *
    clear hq
    go_enter Tryz.func40, Tryz.ntmps40
    go_wp2
    go_ret
    exact ⟨ret_bl (unhide HF).symm, unhide HA⟩
  have d8 : ((code.length : Int) != 0) = false := by rw [bne_eq_false_iff_eq]; omega
  have H_code := hide hq
  clear hq
  have HF : Hid (stmB ks k ⟨kd, nm, atv, outs, code, args⟩ = false) := (stm_good ks k ⟨kd, nm, atv, outs, code, args⟩ (Or.inr (Or.inr (unhide H_name))) (Or.inr (Or.inr (unhide H_at))) (Or.inr ⟨unhide H_outs, unhide H_args⟩) (Or.inr (Or.inr (unhide H_code)))).trans (by unfold stmTail; simp only; rw [if_neg (by omega), if_neg (by omega), if_neg (by omega), if_neg (by omega), if_neg (by omega)])
  generalize stmB ks k ⟨kd, nm, atv, outs, code, args⟩ = R at *
  clear hkd
  go_enter Tryz.func40, Tryz.ntmps40
  go_wp2
  go_ret
  exact ⟨ret_bl (unhide HF).symm, unhide HA⟩

end Go.Proofs.YtmglbkndjnflkaaGreatDoor
namespace Go.Proofs.YtmglbkndjnflkaaGreatDoor
open Go.RowKit
set_option linter.unusedSimpArgs false
set_option linter.unusedVariables false

set_option maxRecDepth 20000 in
set_option maxHeartbeats 4000000 in
theorem l3StmOK_k1 (ks : List DClass) (k : DClass) (nm : ByteArray) (atv : Int) (outs : List ByteArray) (code : List DItem) (args : List (List DItem))  (a1 a2 a3 a4 a5 a6 mv ov cv av : Value) (w : World) (hm : SlAt 7 160 RClass 0 w mv ks) (h : ClassIn w k a1 a2 a3 a4 a5 a6) (h1 : SlAt 1 16 RStr 0 w ov outs) (h2 : SlAt 3 32 RItem 0 w cv code) (h3 : SlAt 1 24 RItems 0 w av args)
    (hin : ∀ j (hj : j < k.insts.length), 0 ≤ k.insts[j] ∧ k.insts[j] < ks.length) :
    Calls Tryz.prog 40 #[.agg #[mv], .agg #[.string k.name, a1, a2, a3, a4, a5, a6], .agg #[.int .i64 1, .string nm, .int .i64 atv, ov, cv, av]] w (Ans (.bool (stmB ks k ⟨1, nm, atv, outs, code, args⟩)) w) := by
  have HCO := hide (fun code v w' (hb : Below w.heap.size w w') hv => l3CodeOK_ok k code a1 a2 a3 a4 a5 a6 v w' (h.stays hb) hv)
  have HSE := hide (fun x w' (hb : Below w.heap.size w w') => l3Settable_ok k x a1 a2 a3 a4 a5 a6 w' (h.stays hb))
  have HVR := hide (fun w' (hb : Below w.heap.size w w') => l3Vars_ok k a1 a2 a3 a4 a5 a6 w' (h.stays hb).ins (h.stays hb).outs (h.stays hb).locs h.sum)
  have HIN := hide h.insts
  obtain ⟨b1, c1, rfl⟩ := h.ins.shape
  obtain ⟨b2, c2, rfl⟩ := h.outs.shape
  obtain ⟨b3, c3, rfl⟩ := h.locs.shape
  obtain ⟨b4, c4, rfl⟩ := h.mems.shape
  obtain ⟨b5, c5, rfl⟩ := h.insts.shape
  obtain ⟨b6, c6, rfl⟩ := h.body.shape
  obtain ⟨bm, cm, rfl⟩ := hm.shape
  obtain ⟨o1, p1, rfl⟩ := h1.shape
  obtain ⟨o2, p2, rfl⟩ := h2.shape
  obtain ⟨o3, p3, rfl⟩ := h3.shape
  have z1 := h1.lenM
  have z2 := h2.lenM
  have z3 := h3.lenM
  have z4 := h.mems.lenM
  have z5 := h.insts.lenM
  have z6 := hm.lenM
  have HO := hide h1
  have HC := hide h2
  have HAA := hide h3
  have HMM := hide hm
  clear h hm h1 h2 h3
  have hA : Below w.heap.size w (((w.alloc (.cells #[.slice bm ks.length cm] 29)).alloc (.cells #[.string k.name, .slice b1 k.ins.length c1, .slice b2 k.outs.length c2, .slice b3 k.locs.length c3, .slice b4 k.mems.length c4, .slice b5 k.insts.length c5, .slice b6 k.body.length c6] 40)).alloc (.cells #[.int .i64 1, .string nm, .int .i64 atv, .slice o1 outs.length p1, .slice o2 code.length p2, .slice o3 args.length p3] 47)) := (((Below.refl _ _).alloc (Nat.le_refl _) _).alloc (by simp) _).alloc (by simp only [World.size_alloc]; omega) _
  have hAz : (((w.alloc (.cells #[.slice bm ks.length cm] 29)).alloc (.cells #[.string k.name, .slice b1 k.ins.length c1, .slice b2 k.outs.length c2, .slice b3 k.locs.length c3, .slice b4 k.mems.length c4, .slice b5 k.insts.length c5, .slice b6 k.body.length c6] 40)).alloc (.cells #[.int .i64 1, .string nm, .int .i64 atv, .slice o1 outs.length p1, .slice o2 code.length p2, .slice o3 args.length p3] 47)).heap.size = w.heap.size + 3 := by simp
  have hB1 : BlkAt (((w.alloc (.cells #[.slice bm ks.length cm] 29)).alloc (.cells #[.string k.name, .slice b1 k.ins.length c1, .slice b2 k.outs.length c2, .slice b3 k.locs.length c3, .slice b4 k.mems.length c4, .slice b5 k.insts.length c5, .slice b6 k.body.length c6] 40)).alloc (.cells #[.int .i64 1, .string nm, .int .i64 atv, .slice o1 outs.length p1, .slice o2 code.length p2, .slice o3 args.length p3] 47)) w.heap.size 29 #[.slice bm ks.length cm] := (blk_box w #[.slice bm ks.length cm] 29).below (((Below.refl _ _).alloc (Nat.le_refl _) _).alloc (by simp) _) (by simp)
  have hB2 : BlkAt (((w.alloc (.cells #[.slice bm ks.length cm] 29)).alloc (.cells #[.string k.name, .slice b1 k.ins.length c1, .slice b2 k.outs.length c2, .slice b3 k.locs.length c3, .slice b4 k.mems.length c4, .slice b5 k.insts.length c5, .slice b6 k.body.length c6] 40)).alloc (.cells #[.int .i64 1, .string nm, .int .i64 atv, .slice o1 outs.length p1, .slice o2 code.length p2, .slice o3 args.length p3] 47)) (w.heap.size + 1) 40 #[.string k.name, .slice b1 k.ins.length c1, .slice b2 k.outs.length c2, .slice b3 k.locs.length c3, .slice b4 k.mems.length c4, .slice b5 k.insts.length c5, .slice b6 k.body.length c6] := by
    have h0 := blk_box (w.alloc (.cells #[.slice bm ks.length cm] 29)) #[.string k.name, .slice b1 k.ins.length c1, .slice b2 k.outs.length c2, .slice b3 k.locs.length c3, .slice b4 k.mems.length c4, .slice b5 k.insts.length c5, .slice b6 k.body.length c6] 40
    rw [show (w.alloc (.cells #[.slice bm ks.length cm] 29)).heap.size = w.heap.size + 1 from by simp] at h0
    exact h0.below ((Below.refl _ _).alloc (Nat.le_refl _) _) (by simp)
  have hB3 : BlkAt (((w.alloc (.cells #[.slice bm ks.length cm] 29)).alloc (.cells #[.string k.name, .slice b1 k.ins.length c1, .slice b2 k.outs.length c2, .slice b3 k.locs.length c3, .slice b4 k.mems.length c4, .slice b5 k.insts.length c5, .slice b6 k.body.length c6] 40)).alloc (.cells #[.int .i64 1, .string nm, .int .i64 atv, .slice o1 outs.length p1, .slice o2 code.length p2, .slice o3 args.length p3] 47)) (w.heap.size + 2) 47 #[.int .i64 1, .string nm, .int .i64 atv, .slice o1 outs.length p1, .slice o2 code.length p2, .slice o3 args.length p3] := by
    have h0 := blk_box ((w.alloc (.cells #[.slice bm ks.length cm] 29)).alloc (.cells #[.string k.name, .slice b1 k.ins.length c1, .slice b2 k.outs.length c2, .slice b3 k.locs.length c3, .slice b4 k.mems.length c4, .slice b5 k.insts.length c5, .slice b6 k.body.length c6] 40)) #[.int .i64 1, .string nm, .int .i64 atv, .slice o1 outs.length p1, .slice o2 code.length p2, .slice o3 args.length p3] 47
    rw [show ((w.alloc (.cells #[.slice bm ks.length cm] 29)).alloc (.cells #[.string k.name, .slice b1 k.ins.length c1, .slice b2 k.outs.length c2, .slice b3 k.locs.length c3, .slice b4 k.mems.length c4, .slice b5 k.insts.length c5, .slice b6 k.body.length c6] 40)).heap.size = w.heap.size + 2 from by simp] at h0
    exact h0
  obtain ⟨BX, hBX⟩ : ∃ BX : World → Prop, ∀ w', BX w' ↔ Below (w.heap.size + 3) (((w.alloc (.cells #[.slice bm ks.length cm] 29)).alloc (.cells #[.string k.name, .slice b1 k.ins.length c1, .slice b2 k.outs.length c2, .slice b3 k.locs.length c3, .slice b4 k.mems.length c4, .slice b5 k.insts.length c5, .slice b6 k.body.length c6] 40)).alloc (.cells #[.int .i64 1, .string nm, .int .i64 atv, .slice o1 outs.length p1, .slice o2 code.length p2, .slice o3 args.length p3] 47)) w' := ⟨_, fun _ => Iff.rfl⟩
  have HX1 : Hid (∀ w1, BX w1 → Below w.heap.size w w1) := fun w1 h => hA.trans (((hBX w1).1 h).mono (by omega))
  have HX2 : Hid (∀ w1 w2, BX w1 → Below w1.heap.size w1 w2 → BX w2) := fun w1 w2 h h2 => (hBX w2).2 (((hBX w1).1 h).trans (h2.mono (by have := ((hBX w1).1 h).size; omega)))
  have HX4 : Hid (∀ w1, BX w1 → w1.cell? ⟨w.heap.size, 0, none⟩ = some (.slice bm ks.length cm) ∧ w1.cell? ⟨w.heap.size + 1, 0, none⟩ = some (.string k.name) ∧ w1.cell? ⟨w.heap.size + 1, 1, none⟩ = some (.slice b1 k.ins.length c1) ∧ w1.cell? ⟨w.heap.size + 1, 2, none⟩ = some (.slice b2 k.outs.length c2) ∧ w1.cell? ⟨w.heap.size + 1, 3, none⟩ = some (.slice b3 k.locs.length c3) ∧ w1.cell? ⟨w.heap.size + 1, 4, none⟩ = some (.slice b4 k.mems.length c4) ∧ w1.cell? ⟨w.heap.size + 1, 5, none⟩ = some (.slice b5 k.insts.length c5) ∧ w1.cell? ⟨w.heap.size + 1, 6, none⟩ = some (.slice b6 k.body.length c6) ∧ w1.cell? ⟨w.heap.size + 2, 0, none⟩ = some (.int .i64 1) ∧ w1.cell? ⟨w.heap.size + 2, 1, none⟩ = some (.string nm) ∧ w1.cell? ⟨w.heap.size + 2, 2, none⟩ = some (.int .i64 atv) ∧ w1.cell? ⟨w.heap.size + 2, 3, none⟩ = some (.slice o1 outs.length p1) ∧ w1.cell? ⟨w.heap.size + 2, 4, none⟩ = some (.slice o2 code.length p2) ∧ w1.cell? ⟨w.heap.size + 2, 5, none⟩ = some (.slice o3 args.length p3)) := fun w1 h => ⟨(hB1.below ((hBX w1).1 h) (by omega)).cell (i := 0) (v := .slice bm ks.length cm) rfl, (hB2.below ((hBX w1).1 h) (by omega)).cell (i := 0) (v := .string k.name) rfl, (hB2.below ((hBX w1).1 h) (by omega)).cell (i := 1) (v := .slice b1 k.ins.length c1) rfl, (hB2.below ((hBX w1).1 h) (by omega)).cell (i := 2) (v := .slice b2 k.outs.length c2) rfl, (hB2.below ((hBX w1).1 h) (by omega)).cell (i := 3) (v := .slice b3 k.locs.length c3) rfl, (hB2.below ((hBX w1).1 h) (by omega)).cell (i := 4) (v := .slice b4 k.mems.length c4) rfl, (hB2.below ((hBX w1).1 h) (by omega)).cell (i := 5) (v := .slice b5 k.insts.length c5) rfl, (hB2.below ((hBX w1).1 h) (by omega)).cell (i := 6) (v := .slice b6 k.body.length c6) rfl, (hB3.below ((hBX w1).1 h) (by omega)).cell (i := 0) (v := .int .i64 1) rfl, (hB3.below ((hBX w1).1 h) (by omega)).cell (i := 1) (v := .string nm) rfl, (hB3.below ((hBX w1).1 h) (by omega)).cell (i := 2) (v := .int .i64 atv) rfl, (hB3.below ((hBX w1).1 h) (by omega)).cell (i := 3) (v := .slice o1 outs.length p1) rfl, (hB3.below ((hBX w1).1 h) (by omega)).cell (i := 4) (v := .slice o2 code.length p2) rfl, (hB3.below ((hBX w1).1 h) (by omega)).cell (i := 5) (v := .slice o3 args.length p3) rfl⟩
  have HX5 : Hid (∀ w1, BX w1 → w.heap.size + 3 ≤ w1.heap.size) := fun w1 h => by have := ((hBX w1).1 h).size; omega
  have HX0 : Hid (BX (((w.alloc (.cells #[.slice bm ks.length cm] 29)).alloc (.cells #[.string k.name, .slice b1 k.ins.length c1, .slice b2 k.outs.length c2, .slice b3 k.locs.length c3, .slice b4 k.mems.length c4, .slice b5 k.insts.length c5, .slice b6 k.body.length c6] 40)).alloc (.cells #[.int .i64 1, .string nm, .int .i64 atv, .slice o1 outs.length p1, .slice o2 code.length p2, .slice o3 args.length p3] 47))) := (hBX _).2 (Below.refl _ _)
  have HXd : Hid (BX (((w.alloc (.cells #[.slice bm ks.length cm] 29)).alloc (.cells #[.string k.name, .slice b1 k.ins.length c1, .slice b2 k.outs.length c2, .slice b3 k.locs.length c3, .slice b4 k.mems.length c4, .slice b5 k.insts.length c5, .slice b6 k.body.length c6] 40)).alloc (.cells #[.int .i64 1, .string nm, .int .i64 atv, .slice o1 outs.length p1, .slice o2 code.length p2, .slice o3 args.length p3] 47)).drew) := (hBX _).2 (Below.refl _ _).drew
  have HA := hide hA
  clear hA hAz hB1 hB2 hB3 hBX
  by_cases hq : atv = 0
  case neg =>
    have d5 : (atv != 0) = true := by simp [hq]
    have HF := hide (stm_at ks k ⟨1, nm, atv, outs, code, args⟩ (by simp) (by simp) hq)
    generalize stmB ks k ⟨1, nm, atv, outs, code, args⟩ = R at *
    clear hq
    go_enter Tryz.func40, Tryz.ntmps40
    go_wp2
    go_ret
    exact ⟨ret_bl (unhide HF).symm, unhide HA⟩
  have d5 : (atv != 0) = false := by simp [hq]
  have H_at := hide hq
  clear hq
  by_cases hq : outs.length = 0
  case neg =>
    have d6 : ((outs.length : Int) != 0) = true := by rw [bne_iff_ne]; omega
    have HF := hide (stm_oa ks k ⟨1, nm, atv, outs, code, args⟩ (by simp) (Or.inl hq))
    generalize stmB ks k ⟨1, nm, atv, outs, code, args⟩ = R at *
    clear hq
    go_enter Tryz.func40, Tryz.ntmps40
    go_wp2
    go_ret
    exact ⟨ret_bl (unhide HF).symm, unhide HA⟩
  have d6 : ((outs.length : Int) != 0) = false := by rw [bne_eq_false_iff_eq]; omega
  have H_outs := hide hq
  clear hq
  by_cases hq : args.length = 0
  case neg =>
    have d7 : ((args.length : Int) != 0) = true := by rw [bne_iff_ne]; omega
    have HF := hide (stm_oa ks k ⟨1, nm, atv, outs, code, args⟩ (by simp) (Or.inr hq))
    generalize stmB ks k ⟨1, nm, atv, outs, code, args⟩ = R at *
    clear hq
    go_enter Tryz.func40, Tryz.ntmps40
    go_wp2
    go_ret
    exact ⟨ret_bl (unhide HF).symm, unhide HA⟩
  have d7 : ((args.length : Int) != 0) = false := by rw [bne_eq_false_iff_eq]; omega
  have H_args := hide hq
  clear hq
  have HF : Hid (stmB ks k ⟨1, nm, atv, outs, code, args⟩ = (setB k nm && mcB k code)) := (stm_good ks k ⟨1, nm, atv, outs, code, args⟩ (Or.inl rfl) (Or.inr (Or.inr (unhide H_at))) (Or.inr ⟨unhide H_outs, unhide H_args⟩) (Or.inl rfl)).trans (by unfold stmTail; rw [if_pos rfl])
  generalize stmB ks k ⟨1, nm, atv, outs, code, args⟩ = R at *
  have HC1 := hide (unhide HSE nm _ (unhide HA))
  have HC2 := hide (fun w' (hb : BX w') => unhide HCO code _ w' (unhide HX1 _ hb) ((unhide HC).stays RItem_kept (unhide HX1 _ hb)))
  generalize setB k nm = sb at *
  generalize mcB k code = mb at *
  cases sb
  · rw [Bool.false_and] at HF
    go_enter Tryz.func40, Tryz.ntmps40
    go_wp2_with fail
    refine (unhide HC1).mono ?_
    rintro e w1 ⟨rfl, hb1⟩
    have HB := hide (unhide HX1 _ (unhide HX2 _ _ (unhide HX0) hb1))
    clear hb1
    go_wp2
    go_ret
    exact ⟨ret_bl (unhide HF).symm, unhide HB⟩
  · rw [Bool.true_and] at HF
    go_enter Tryz.func40, Tryz.ntmps40
    go_wp2_with fail
    refine (unhide HC1).mono ?_
    rintro e w1 ⟨rfl, hb1⟩
    have hbx1 := unhide HX2 _ _ (unhide HX0) hb1
    have HBX1 := hide hbx1
    have HC3 := hide (unhide HC2 w1 hbx1)
    obtain ⟨q0, q1, q2, q3, q4, q5, q6, q7, q8, q9, q10, q11, q12, q13⟩ := unhide HX4 w1 hbx1
    clear hb1 hbx1
    go_wp2_with fail
    refine (unhide HC3).mono ?_
    rintro e w2 ⟨rfl, hb2⟩
    have HB := hide (unhide HX1 _ (unhide HX2 _ _ (unhide HBX1) hb2))
    clear hb2
    go_wp2
    go_ret
    exact ⟨ret_bl (unhide HF).symm, unhide HB⟩

set_option maxRecDepth 20000 in
set_option maxHeartbeats 4000000 in
theorem l3StmOK_k2 (ks : List DClass) (k : DClass) (nm : ByteArray) (atv : Int) (outs : List ByteArray) (code : List DItem) (args : List (List DItem))  (a1 a2 a3 a4 a5 a6 mv ov cv av : Value) (w : World) (hm : SlAt 7 160 RClass 0 w mv ks) (h : ClassIn w k a1 a2 a3 a4 a5 a6) (h1 : SlAt 1 16 RStr 0 w ov outs) (h2 : SlAt 3 32 RItem 0 w cv code) (h3 : SlAt 1 24 RItems 0 w av args)
    (hin : ∀ j (hj : j < k.insts.length), 0 ≤ k.insts[j] ∧ k.insts[j] < ks.length) :
    Calls Tryz.prog 40 #[.agg #[mv], .agg #[.string k.name, a1, a2, a3, a4, a5, a6], .agg #[.int .i64 2, .string nm, .int .i64 atv, ov, cv, av]] w (Ans (.bool (stmB ks k ⟨2, nm, atv, outs, code, args⟩)) w) := by
  have HCO := hide (fun code v w' (hb : Below w.heap.size w w') hv => l3CodeOK_ok k code a1 a2 a3 a4 a5 a6 v w' (h.stays hb) hv)
  have HSE := hide (fun x w' (hb : Below w.heap.size w w') => l3Settable_ok k x a1 a2 a3 a4 a5 a6 w' (h.stays hb))
  have HVR := hide (fun w' (hb : Below w.heap.size w w') => l3Vars_ok k a1 a2 a3 a4 a5 a6 w' (h.stays hb).ins (h.stays hb).outs (h.stays hb).locs h.sum)
  have HIN := hide h.insts
  obtain ⟨b1, c1, rfl⟩ := h.ins.shape
  obtain ⟨b2, c2, rfl⟩ := h.outs.shape
  obtain ⟨b3, c3, rfl⟩ := h.locs.shape
  obtain ⟨b4, c4, rfl⟩ := h.mems.shape
  obtain ⟨b5, c5, rfl⟩ := h.insts.shape
  obtain ⟨b6, c6, rfl⟩ := h.body.shape
  obtain ⟨bm, cm, rfl⟩ := hm.shape
  obtain ⟨o1, p1, rfl⟩ := h1.shape
  obtain ⟨o2, p2, rfl⟩ := h2.shape
  obtain ⟨o3, p3, rfl⟩ := h3.shape
  have z1 := h1.lenM
  have z2 := h2.lenM
  have z3 := h3.lenM
  have z4 := h.mems.lenM
  have z5 := h.insts.lenM
  have z6 := hm.lenM
  have HO := hide h1
  have HC := hide h2
  have HAA := hide h3
  have HMM := hide hm
  clear h hm h1 h2 h3
  have hA : Below w.heap.size w (((w.alloc (.cells #[.slice bm ks.length cm] 29)).alloc (.cells #[.string k.name, .slice b1 k.ins.length c1, .slice b2 k.outs.length c2, .slice b3 k.locs.length c3, .slice b4 k.mems.length c4, .slice b5 k.insts.length c5, .slice b6 k.body.length c6] 40)).alloc (.cells #[.int .i64 2, .string nm, .int .i64 atv, .slice o1 outs.length p1, .slice o2 code.length p2, .slice o3 args.length p3] 47)) := (((Below.refl _ _).alloc (Nat.le_refl _) _).alloc (by simp) _).alloc (by simp only [World.size_alloc]; omega) _
  have hAz : (((w.alloc (.cells #[.slice bm ks.length cm] 29)).alloc (.cells #[.string k.name, .slice b1 k.ins.length c1, .slice b2 k.outs.length c2, .slice b3 k.locs.length c3, .slice b4 k.mems.length c4, .slice b5 k.insts.length c5, .slice b6 k.body.length c6] 40)).alloc (.cells #[.int .i64 2, .string nm, .int .i64 atv, .slice o1 outs.length p1, .slice o2 code.length p2, .slice o3 args.length p3] 47)).heap.size = w.heap.size + 3 := by simp
  have hB1 : BlkAt (((w.alloc (.cells #[.slice bm ks.length cm] 29)).alloc (.cells #[.string k.name, .slice b1 k.ins.length c1, .slice b2 k.outs.length c2, .slice b3 k.locs.length c3, .slice b4 k.mems.length c4, .slice b5 k.insts.length c5, .slice b6 k.body.length c6] 40)).alloc (.cells #[.int .i64 2, .string nm, .int .i64 atv, .slice o1 outs.length p1, .slice o2 code.length p2, .slice o3 args.length p3] 47)) w.heap.size 29 #[.slice bm ks.length cm] := (blk_box w #[.slice bm ks.length cm] 29).below (((Below.refl _ _).alloc (Nat.le_refl _) _).alloc (by simp) _) (by simp)
  have hB2 : BlkAt (((w.alloc (.cells #[.slice bm ks.length cm] 29)).alloc (.cells #[.string k.name, .slice b1 k.ins.length c1, .slice b2 k.outs.length c2, .slice b3 k.locs.length c3, .slice b4 k.mems.length c4, .slice b5 k.insts.length c5, .slice b6 k.body.length c6] 40)).alloc (.cells #[.int .i64 2, .string nm, .int .i64 atv, .slice o1 outs.length p1, .slice o2 code.length p2, .slice o3 args.length p3] 47)) (w.heap.size + 1) 40 #[.string k.name, .slice b1 k.ins.length c1, .slice b2 k.outs.length c2, .slice b3 k.locs.length c3, .slice b4 k.mems.length c4, .slice b5 k.insts.length c5, .slice b6 k.body.length c6] := by
    have h0 := blk_box (w.alloc (.cells #[.slice bm ks.length cm] 29)) #[.string k.name, .slice b1 k.ins.length c1, .slice b2 k.outs.length c2, .slice b3 k.locs.length c3, .slice b4 k.mems.length c4, .slice b5 k.insts.length c5, .slice b6 k.body.length c6] 40
    rw [show (w.alloc (.cells #[.slice bm ks.length cm] 29)).heap.size = w.heap.size + 1 from by simp] at h0
    exact h0.below ((Below.refl _ _).alloc (Nat.le_refl _) _) (by simp)
  have hB3 : BlkAt (((w.alloc (.cells #[.slice bm ks.length cm] 29)).alloc (.cells #[.string k.name, .slice b1 k.ins.length c1, .slice b2 k.outs.length c2, .slice b3 k.locs.length c3, .slice b4 k.mems.length c4, .slice b5 k.insts.length c5, .slice b6 k.body.length c6] 40)).alloc (.cells #[.int .i64 2, .string nm, .int .i64 atv, .slice o1 outs.length p1, .slice o2 code.length p2, .slice o3 args.length p3] 47)) (w.heap.size + 2) 47 #[.int .i64 2, .string nm, .int .i64 atv, .slice o1 outs.length p1, .slice o2 code.length p2, .slice o3 args.length p3] := by
    have h0 := blk_box ((w.alloc (.cells #[.slice bm ks.length cm] 29)).alloc (.cells #[.string k.name, .slice b1 k.ins.length c1, .slice b2 k.outs.length c2, .slice b3 k.locs.length c3, .slice b4 k.mems.length c4, .slice b5 k.insts.length c5, .slice b6 k.body.length c6] 40)) #[.int .i64 2, .string nm, .int .i64 atv, .slice o1 outs.length p1, .slice o2 code.length p2, .slice o3 args.length p3] 47
    rw [show ((w.alloc (.cells #[.slice bm ks.length cm] 29)).alloc (.cells #[.string k.name, .slice b1 k.ins.length c1, .slice b2 k.outs.length c2, .slice b3 k.locs.length c3, .slice b4 k.mems.length c4, .slice b5 k.insts.length c5, .slice b6 k.body.length c6] 40)).heap.size = w.heap.size + 2 from by simp] at h0
    exact h0
  obtain ⟨BX, hBX⟩ : ∃ BX : World → Prop, ∀ w', BX w' ↔ Below (w.heap.size + 3) (((w.alloc (.cells #[.slice bm ks.length cm] 29)).alloc (.cells #[.string k.name, .slice b1 k.ins.length c1, .slice b2 k.outs.length c2, .slice b3 k.locs.length c3, .slice b4 k.mems.length c4, .slice b5 k.insts.length c5, .slice b6 k.body.length c6] 40)).alloc (.cells #[.int .i64 2, .string nm, .int .i64 atv, .slice o1 outs.length p1, .slice o2 code.length p2, .slice o3 args.length p3] 47)) w' := ⟨_, fun _ => Iff.rfl⟩
  have HX1 : Hid (∀ w1, BX w1 → Below w.heap.size w w1) := fun w1 h => hA.trans (((hBX w1).1 h).mono (by omega))
  have HX2 : Hid (∀ w1 w2, BX w1 → Below w1.heap.size w1 w2 → BX w2) := fun w1 w2 h h2 => (hBX w2).2 (((hBX w1).1 h).trans (h2.mono (by have := ((hBX w1).1 h).size; omega)))
  have HX4 : Hid (∀ w1, BX w1 → w1.cell? ⟨w.heap.size, 0, none⟩ = some (.slice bm ks.length cm) ∧ w1.cell? ⟨w.heap.size + 1, 0, none⟩ = some (.string k.name) ∧ w1.cell? ⟨w.heap.size + 1, 1, none⟩ = some (.slice b1 k.ins.length c1) ∧ w1.cell? ⟨w.heap.size + 1, 2, none⟩ = some (.slice b2 k.outs.length c2) ∧ w1.cell? ⟨w.heap.size + 1, 3, none⟩ = some (.slice b3 k.locs.length c3) ∧ w1.cell? ⟨w.heap.size + 1, 4, none⟩ = some (.slice b4 k.mems.length c4) ∧ w1.cell? ⟨w.heap.size + 1, 5, none⟩ = some (.slice b5 k.insts.length c5) ∧ w1.cell? ⟨w.heap.size + 1, 6, none⟩ = some (.slice b6 k.body.length c6) ∧ w1.cell? ⟨w.heap.size + 2, 0, none⟩ = some (.int .i64 2) ∧ w1.cell? ⟨w.heap.size + 2, 1, none⟩ = some (.string nm) ∧ w1.cell? ⟨w.heap.size + 2, 2, none⟩ = some (.int .i64 atv) ∧ w1.cell? ⟨w.heap.size + 2, 3, none⟩ = some (.slice o1 outs.length p1) ∧ w1.cell? ⟨w.heap.size + 2, 4, none⟩ = some (.slice o2 code.length p2) ∧ w1.cell? ⟨w.heap.size + 2, 5, none⟩ = some (.slice o3 args.length p3)) := fun w1 h => ⟨(hB1.below ((hBX w1).1 h) (by omega)).cell (i := 0) (v := .slice bm ks.length cm) rfl, (hB2.below ((hBX w1).1 h) (by omega)).cell (i := 0) (v := .string k.name) rfl, (hB2.below ((hBX w1).1 h) (by omega)).cell (i := 1) (v := .slice b1 k.ins.length c1) rfl, (hB2.below ((hBX w1).1 h) (by omega)).cell (i := 2) (v := .slice b2 k.outs.length c2) rfl, (hB2.below ((hBX w1).1 h) (by omega)).cell (i := 3) (v := .slice b3 k.locs.length c3) rfl, (hB2.below ((hBX w1).1 h) (by omega)).cell (i := 4) (v := .slice b4 k.mems.length c4) rfl, (hB2.below ((hBX w1).1 h) (by omega)).cell (i := 5) (v := .slice b5 k.insts.length c5) rfl, (hB2.below ((hBX w1).1 h) (by omega)).cell (i := 6) (v := .slice b6 k.body.length c6) rfl, (hB3.below ((hBX w1).1 h) (by omega)).cell (i := 0) (v := .int .i64 2) rfl, (hB3.below ((hBX w1).1 h) (by omega)).cell (i := 1) (v := .string nm) rfl, (hB3.below ((hBX w1).1 h) (by omega)).cell (i := 2) (v := .int .i64 atv) rfl, (hB3.below ((hBX w1).1 h) (by omega)).cell (i := 3) (v := .slice o1 outs.length p1) rfl, (hB3.below ((hBX w1).1 h) (by omega)).cell (i := 4) (v := .slice o2 code.length p2) rfl, (hB3.below ((hBX w1).1 h) (by omega)).cell (i := 5) (v := .slice o3 args.length p3) rfl⟩
  have HX5 : Hid (∀ w1, BX w1 → w.heap.size + 3 ≤ w1.heap.size) := fun w1 h => by have := ((hBX w1).1 h).size; omega
  have HX0 : Hid (BX (((w.alloc (.cells #[.slice bm ks.length cm] 29)).alloc (.cells #[.string k.name, .slice b1 k.ins.length c1, .slice b2 k.outs.length c2, .slice b3 k.locs.length c3, .slice b4 k.mems.length c4, .slice b5 k.insts.length c5, .slice b6 k.body.length c6] 40)).alloc (.cells #[.int .i64 2, .string nm, .int .i64 atv, .slice o1 outs.length p1, .slice o2 code.length p2, .slice o3 args.length p3] 47))) := (hBX _).2 (Below.refl _ _)
  have HXd : Hid (BX (((w.alloc (.cells #[.slice bm ks.length cm] 29)).alloc (.cells #[.string k.name, .slice b1 k.ins.length c1, .slice b2 k.outs.length c2, .slice b3 k.locs.length c3, .slice b4 k.mems.length c4, .slice b5 k.insts.length c5, .slice b6 k.body.length c6] 40)).alloc (.cells #[.int .i64 2, .string nm, .int .i64 atv, .slice o1 outs.length p1, .slice o2 code.length p2, .slice o3 args.length p3] 47)).drew) := (hBX _).2 (Below.refl _ _).drew
  have HA := hide hA
  clear hA hAz hB1 hB2 hB3 hBX
  by_cases hq : nm.size = 0
  case neg =>
    have d4 := empty_no nm hq
    have d4' := isEmpty_no nm hq
    have HF := hide (stm_name ks k ⟨2, nm, atv, outs, code, args⟩ (by simp) hq)
    generalize stmB ks k ⟨2, nm, atv, outs, code, args⟩ = R at *
    clear hq
    go_enter Tryz.func40, Tryz.ntmps40
    go_wp2
    go_ret
    exact ⟨ret_bl (unhide HF).symm, unhide HA⟩
  have d4 := empty_yes nm hq
  have d4' := isEmpty_yes nm hq
  have H_name := hide hq
  clear hq
  by_cases hq : outs.length = 0
  case neg =>
    have d6 : ((outs.length : Int) != 0) = true := by rw [bne_iff_ne]; omega
    have HF := hide (stm_oa ks k ⟨2, nm, atv, outs, code, args⟩ (by simp) (Or.inl hq))
    generalize stmB ks k ⟨2, nm, atv, outs, code, args⟩ = R at *
    clear hq
    go_enter Tryz.func40, Tryz.ntmps40
    go_wp2
    go_ret
    exact ⟨ret_bl (unhide HF).symm, unhide HA⟩
  have d6 : ((outs.length : Int) != 0) = false := by rw [bne_eq_false_iff_eq]; omega
  have H_outs := hide hq
  clear hq
  by_cases hq : args.length = 0
  case neg =>
    have d7 : ((args.length : Int) != 0) = true := by rw [bne_iff_ne]; omega
    have HF := hide (stm_oa ks k ⟨2, nm, atv, outs, code, args⟩ (by simp) (Or.inr hq))
    generalize stmB ks k ⟨2, nm, atv, outs, code, args⟩ = R at *
    clear hq
    go_enter Tryz.func40, Tryz.ntmps40
    go_wp2
    go_ret
    exact ⟨ret_bl (unhide HF).symm, unhide HA⟩
  have d7 : ((args.length : Int) != 0) = false := by rw [bne_eq_false_iff_eq]; omega
  have H_args := hide hq
  clear hq
  have HF : Hid (stmB ks k ⟨2, nm, atv, outs, code, args⟩ = (decide (0 ≤ atv ∧ atv < (k.mems.length : Int)) && mcB k code)) := (stm_good ks k ⟨2, nm, atv, outs, code, args⟩ (Or.inr (Or.inr (unhide H_name))) (Or.inl rfl) (Or.inr ⟨unhide H_outs, unhide H_args⟩) (Or.inr (Or.inl rfl))).trans (by unfold stmTail; rw [if_neg (by simp), if_pos rfl])
  generalize stmB ks k ⟨2, nm, atv, outs, code, args⟩ = R at *
  have HC1 := hide (unhide HCO code _ _ (unhide HA) ((unhide HC).stays RItem_kept (unhide HA)))
  generalize mcB k code = mb at *
  by_cases h0 : 0 ≤ atv
  case neg =>
    have e1 : decide (0 ≤ atv) = false := decide_eq_false h0
    have HR : Hid (R = false) := (unhide HF).trans (by rw [decide_eq_false (fun h => h0 h.1), Bool.false_and])
    clear HF
    go_enter Tryz.func40, Tryz.ntmps40
    go_wp2
    go_ret
    exact ⟨ret_bl (unhide HR).symm, unhide HA⟩
  have e1 : decide (0 ≤ atv) = true := decide_eq_true h0
  by_cases h9 : atv < (k.mems.length : Int)
  case neg =>
    have e2 : decide (atv < (k.mems.length : Int)) = false := decide_eq_false h9
    have HR : Hid (R = false) := (unhide HF).trans (by rw [decide_eq_false (fun h => h9 h.2), Bool.false_and])
    clear HF
    go_enter Tryz.func40, Tryz.ntmps40
    go_wp2
    go_ret
    exact ⟨ret_bl (unhide HR).symm, unhide HA⟩
  have e2 : decide (atv < (k.mems.length : Int)) = true := decide_eq_true h9
  have HR : Hid (R = mb) := (unhide HF).trans (by rw [decide_eq_true ⟨h0, h9⟩, Bool.true_and])
  clear HF
  go_enter Tryz.func40, Tryz.ntmps40
  go_wp2_with fail
  refine (unhide HC1).mono ?_
  rintro e w1 ⟨rfl, hb1⟩
  have HB := hide (unhide HX1 _ (unhide HX2 _ _ (unhide HX0) hb1))
  clear hb1
  go_wp2
  go_ret
  exact ⟨ret_bl (unhide HR).symm, unhide HB⟩

set_option maxRecDepth 20000 in
set_option maxHeartbeats 4000000 in
theorem l3StmOK_k4 (ks : List DClass) (k : DClass) (nm : ByteArray) (atv : Int) (outs : List ByteArray) (code : List DItem) (args : List (List DItem))  (a1 a2 a3 a4 a5 a6 mv ov cv av : Value) (w : World) (hm : SlAt 7 160 RClass 0 w mv ks) (h : ClassIn w k a1 a2 a3 a4 a5 a6) (h1 : SlAt 1 16 RStr 0 w ov outs) (h2 : SlAt 3 32 RItem 0 w cv code) (h3 : SlAt 1 24 RItems 0 w av args)
    (hin : ∀ j (hj : j < k.insts.length), 0 ≤ k.insts[j] ∧ k.insts[j] < ks.length) :
    Calls Tryz.prog 40 #[.agg #[mv], .agg #[.string k.name, a1, a2, a3, a4, a5, a6], .agg #[.int .i64 4, .string nm, .int .i64 atv, ov, cv, av]] w (Ans (.bool (stmB ks k ⟨4, nm, atv, outs, code, args⟩)) w) := by
  have HCO := hide (fun code v w' (hb : Below w.heap.size w w') hv => l3CodeOK_ok k code a1 a2 a3 a4 a5 a6 v w' (h.stays hb) hv)
  have HSE := hide (fun x w' (hb : Below w.heap.size w w') => l3Settable_ok k x a1 a2 a3 a4 a5 a6 w' (h.stays hb))
  have HVR := hide (fun w' (hb : Below w.heap.size w w') => l3Vars_ok k a1 a2 a3 a4 a5 a6 w' (h.stays hb).ins (h.stays hb).outs (h.stays hb).locs h.sum)
  have HIN := hide h.insts
  obtain ⟨b1, c1, rfl⟩ := h.ins.shape
  obtain ⟨b2, c2, rfl⟩ := h.outs.shape
  obtain ⟨b3, c3, rfl⟩ := h.locs.shape
  obtain ⟨b4, c4, rfl⟩ := h.mems.shape
  obtain ⟨b5, c5, rfl⟩ := h.insts.shape
  obtain ⟨b6, c6, rfl⟩ := h.body.shape
  obtain ⟨bm, cm, rfl⟩ := hm.shape
  obtain ⟨o1, p1, rfl⟩ := h1.shape
  obtain ⟨o2, p2, rfl⟩ := h2.shape
  obtain ⟨o3, p3, rfl⟩ := h3.shape
  have z1 := h1.lenM
  have z2 := h2.lenM
  have z3 := h3.lenM
  have z4 := h.mems.lenM
  have z5 := h.insts.lenM
  have z6 := hm.lenM
  have HO := hide h1
  have HC := hide h2
  have HAA := hide h3
  have HMM := hide hm
  clear h hm h1 h2 h3
  have hA : Below w.heap.size w (((w.alloc (.cells #[.slice bm ks.length cm] 29)).alloc (.cells #[.string k.name, .slice b1 k.ins.length c1, .slice b2 k.outs.length c2, .slice b3 k.locs.length c3, .slice b4 k.mems.length c4, .slice b5 k.insts.length c5, .slice b6 k.body.length c6] 40)).alloc (.cells #[.int .i64 4, .string nm, .int .i64 atv, .slice o1 outs.length p1, .slice o2 code.length p2, .slice o3 args.length p3] 47)) := (((Below.refl _ _).alloc (Nat.le_refl _) _).alloc (by simp) _).alloc (by simp only [World.size_alloc]; omega) _
  have hAz : (((w.alloc (.cells #[.slice bm ks.length cm] 29)).alloc (.cells #[.string k.name, .slice b1 k.ins.length c1, .slice b2 k.outs.length c2, .slice b3 k.locs.length c3, .slice b4 k.mems.length c4, .slice b5 k.insts.length c5, .slice b6 k.body.length c6] 40)).alloc (.cells #[.int .i64 4, .string nm, .int .i64 atv, .slice o1 outs.length p1, .slice o2 code.length p2, .slice o3 args.length p3] 47)).heap.size = w.heap.size + 3 := by simp
  have hB1 : BlkAt (((w.alloc (.cells #[.slice bm ks.length cm] 29)).alloc (.cells #[.string k.name, .slice b1 k.ins.length c1, .slice b2 k.outs.length c2, .slice b3 k.locs.length c3, .slice b4 k.mems.length c4, .slice b5 k.insts.length c5, .slice b6 k.body.length c6] 40)).alloc (.cells #[.int .i64 4, .string nm, .int .i64 atv, .slice o1 outs.length p1, .slice o2 code.length p2, .slice o3 args.length p3] 47)) w.heap.size 29 #[.slice bm ks.length cm] := (blk_box w #[.slice bm ks.length cm] 29).below (((Below.refl _ _).alloc (Nat.le_refl _) _).alloc (by simp) _) (by simp)
  have hB2 : BlkAt (((w.alloc (.cells #[.slice bm ks.length cm] 29)).alloc (.cells #[.string k.name, .slice b1 k.ins.length c1, .slice b2 k.outs.length c2, .slice b3 k.locs.length c3, .slice b4 k.mems.length c4, .slice b5 k.insts.length c5, .slice b6 k.body.length c6] 40)).alloc (.cells #[.int .i64 4, .string nm, .int .i64 atv, .slice o1 outs.length p1, .slice o2 code.length p2, .slice o3 args.length p3] 47)) (w.heap.size + 1) 40 #[.string k.name, .slice b1 k.ins.length c1, .slice b2 k.outs.length c2, .slice b3 k.locs.length c3, .slice b4 k.mems.length c4, .slice b5 k.insts.length c5, .slice b6 k.body.length c6] := by
    have h0 := blk_box (w.alloc (.cells #[.slice bm ks.length cm] 29)) #[.string k.name, .slice b1 k.ins.length c1, .slice b2 k.outs.length c2, .slice b3 k.locs.length c3, .slice b4 k.mems.length c4, .slice b5 k.insts.length c5, .slice b6 k.body.length c6] 40
    rw [show (w.alloc (.cells #[.slice bm ks.length cm] 29)).heap.size = w.heap.size + 1 from by simp] at h0
    exact h0.below ((Below.refl _ _).alloc (Nat.le_refl _) _) (by simp)
  have hB3 : BlkAt (((w.alloc (.cells #[.slice bm ks.length cm] 29)).alloc (.cells #[.string k.name, .slice b1 k.ins.length c1, .slice b2 k.outs.length c2, .slice b3 k.locs.length c3, .slice b4 k.mems.length c4, .slice b5 k.insts.length c5, .slice b6 k.body.length c6] 40)).alloc (.cells #[.int .i64 4, .string nm, .int .i64 atv, .slice o1 outs.length p1, .slice o2 code.length p2, .slice o3 args.length p3] 47)) (w.heap.size + 2) 47 #[.int .i64 4, .string nm, .int .i64 atv, .slice o1 outs.length p1, .slice o2 code.length p2, .slice o3 args.length p3] := by
    have h0 := blk_box ((w.alloc (.cells #[.slice bm ks.length cm] 29)).alloc (.cells #[.string k.name, .slice b1 k.ins.length c1, .slice b2 k.outs.length c2, .slice b3 k.locs.length c3, .slice b4 k.mems.length c4, .slice b5 k.insts.length c5, .slice b6 k.body.length c6] 40)) #[.int .i64 4, .string nm, .int .i64 atv, .slice o1 outs.length p1, .slice o2 code.length p2, .slice o3 args.length p3] 47
    rw [show ((w.alloc (.cells #[.slice bm ks.length cm] 29)).alloc (.cells #[.string k.name, .slice b1 k.ins.length c1, .slice b2 k.outs.length c2, .slice b3 k.locs.length c3, .slice b4 k.mems.length c4, .slice b5 k.insts.length c5, .slice b6 k.body.length c6] 40)).heap.size = w.heap.size + 2 from by simp] at h0
    exact h0
  obtain ⟨BX, hBX⟩ : ∃ BX : World → Prop, ∀ w', BX w' ↔ Below (w.heap.size + 3) (((w.alloc (.cells #[.slice bm ks.length cm] 29)).alloc (.cells #[.string k.name, .slice b1 k.ins.length c1, .slice b2 k.outs.length c2, .slice b3 k.locs.length c3, .slice b4 k.mems.length c4, .slice b5 k.insts.length c5, .slice b6 k.body.length c6] 40)).alloc (.cells #[.int .i64 4, .string nm, .int .i64 atv, .slice o1 outs.length p1, .slice o2 code.length p2, .slice o3 args.length p3] 47)) w' := ⟨_, fun _ => Iff.rfl⟩
  have HX1 : Hid (∀ w1, BX w1 → Below w.heap.size w w1) := fun w1 h => hA.trans (((hBX w1).1 h).mono (by omega))
  have HX2 : Hid (∀ w1 w2, BX w1 → Below w1.heap.size w1 w2 → BX w2) := fun w1 w2 h h2 => (hBX w2).2 (((hBX w1).1 h).trans (h2.mono (by have := ((hBX w1).1 h).size; omega)))
  have HX4 : Hid (∀ w1, BX w1 → w1.cell? ⟨w.heap.size, 0, none⟩ = some (.slice bm ks.length cm) ∧ w1.cell? ⟨w.heap.size + 1, 0, none⟩ = some (.string k.name) ∧ w1.cell? ⟨w.heap.size + 1, 1, none⟩ = some (.slice b1 k.ins.length c1) ∧ w1.cell? ⟨w.heap.size + 1, 2, none⟩ = some (.slice b2 k.outs.length c2) ∧ w1.cell? ⟨w.heap.size + 1, 3, none⟩ = some (.slice b3 k.locs.length c3) ∧ w1.cell? ⟨w.heap.size + 1, 4, none⟩ = some (.slice b4 k.mems.length c4) ∧ w1.cell? ⟨w.heap.size + 1, 5, none⟩ = some (.slice b5 k.insts.length c5) ∧ w1.cell? ⟨w.heap.size + 1, 6, none⟩ = some (.slice b6 k.body.length c6) ∧ w1.cell? ⟨w.heap.size + 2, 0, none⟩ = some (.int .i64 4) ∧ w1.cell? ⟨w.heap.size + 2, 1, none⟩ = some (.string nm) ∧ w1.cell? ⟨w.heap.size + 2, 2, none⟩ = some (.int .i64 atv) ∧ w1.cell? ⟨w.heap.size + 2, 3, none⟩ = some (.slice o1 outs.length p1) ∧ w1.cell? ⟨w.heap.size + 2, 4, none⟩ = some (.slice o2 code.length p2) ∧ w1.cell? ⟨w.heap.size + 2, 5, none⟩ = some (.slice o3 args.length p3)) := fun w1 h => ⟨(hB1.below ((hBX w1).1 h) (by omega)).cell (i := 0) (v := .slice bm ks.length cm) rfl, (hB2.below ((hBX w1).1 h) (by omega)).cell (i := 0) (v := .string k.name) rfl, (hB2.below ((hBX w1).1 h) (by omega)).cell (i := 1) (v := .slice b1 k.ins.length c1) rfl, (hB2.below ((hBX w1).1 h) (by omega)).cell (i := 2) (v := .slice b2 k.outs.length c2) rfl, (hB2.below ((hBX w1).1 h) (by omega)).cell (i := 3) (v := .slice b3 k.locs.length c3) rfl, (hB2.below ((hBX w1).1 h) (by omega)).cell (i := 4) (v := .slice b4 k.mems.length c4) rfl, (hB2.below ((hBX w1).1 h) (by omega)).cell (i := 5) (v := .slice b5 k.insts.length c5) rfl, (hB2.below ((hBX w1).1 h) (by omega)).cell (i := 6) (v := .slice b6 k.body.length c6) rfl, (hB3.below ((hBX w1).1 h) (by omega)).cell (i := 0) (v := .int .i64 4) rfl, (hB3.below ((hBX w1).1 h) (by omega)).cell (i := 1) (v := .string nm) rfl, (hB3.below ((hBX w1).1 h) (by omega)).cell (i := 2) (v := .int .i64 atv) rfl, (hB3.below ((hBX w1).1 h) (by omega)).cell (i := 3) (v := .slice o1 outs.length p1) rfl, (hB3.below ((hBX w1).1 h) (by omega)).cell (i := 4) (v := .slice o2 code.length p2) rfl, (hB3.below ((hBX w1).1 h) (by omega)).cell (i := 5) (v := .slice o3 args.length p3) rfl⟩
  have HX5 : Hid (∀ w1, BX w1 → w.heap.size + 3 ≤ w1.heap.size) := fun w1 h => by have := ((hBX w1).1 h).size; omega
  have HX0 : Hid (BX (((w.alloc (.cells #[.slice bm ks.length cm] 29)).alloc (.cells #[.string k.name, .slice b1 k.ins.length c1, .slice b2 k.outs.length c2, .slice b3 k.locs.length c3, .slice b4 k.mems.length c4, .slice b5 k.insts.length c5, .slice b6 k.body.length c6] 40)).alloc (.cells #[.int .i64 4, .string nm, .int .i64 atv, .slice o1 outs.length p1, .slice o2 code.length p2, .slice o3 args.length p3] 47))) := (hBX _).2 (Below.refl _ _)
  have HXd : Hid (BX (((w.alloc (.cells #[.slice bm ks.length cm] 29)).alloc (.cells #[.string k.name, .slice b1 k.ins.length c1, .slice b2 k.outs.length c2, .slice b3 k.locs.length c3, .slice b4 k.mems.length c4, .slice b5 k.insts.length c5, .slice b6 k.body.length c6] 40)).alloc (.cells #[.int .i64 4, .string nm, .int .i64 atv, .slice o1 outs.length p1, .slice o2 code.length p2, .slice o3 args.length p3] 47)).drew) := (hBX _).2 (Below.refl _ _).drew
  have HA := hide hA
  clear hA hAz hB1 hB2 hB3 hBX
  by_cases hq : atv = 0
  case neg =>
    have d5 : (atv != 0) = true := by simp [hq]
    have HF := hide (stm_at ks k ⟨4, nm, atv, outs, code, args⟩ (by simp) (by simp) hq)
    generalize stmB ks k ⟨4, nm, atv, outs, code, args⟩ = R at *
    clear hq
    go_enter Tryz.func40, Tryz.ntmps40
    go_wp2
    go_ret
    exact ⟨ret_bl (unhide HF).symm, unhide HA⟩
  have d5 : (atv != 0) = false := by simp [hq]
  have H_at := hide hq
  clear hq
  by_cases hq : outs.length = 0
  case neg =>
    have d6 : ((outs.length : Int) != 0) = true := by rw [bne_iff_ne]; omega
    have HF := hide (stm_oa ks k ⟨4, nm, atv, outs, code, args⟩ (by simp) (Or.inl hq))
    generalize stmB ks k ⟨4, nm, atv, outs, code, args⟩ = R at *
    clear hq
    go_enter Tryz.func40, Tryz.ntmps40
    go_wp2
    go_ret
    exact ⟨ret_bl (unhide HF).symm, unhide HA⟩
  have d6 : ((outs.length : Int) != 0) = false := by rw [bne_eq_false_iff_eq]; omega
  have H_outs := hide hq
  clear hq
  by_cases hq : args.length = 0
  case neg =>
    have d7 : ((args.length : Int) != 0) = true := by rw [bne_iff_ne]; omega
    have HF := hide (stm_oa ks k ⟨4, nm, atv, outs, code, args⟩ (by simp) (Or.inr hq))
    generalize stmB ks k ⟨4, nm, atv, outs, code, args⟩ = R at *
    clear hq
    go_enter Tryz.func40, Tryz.ntmps40
    go_wp2
    go_ret
    exact ⟨ret_bl (unhide HF).symm, unhide HA⟩
  have d7 : ((args.length : Int) != 0) = false := by rw [bne_eq_false_iff_eq]; omega
  have H_args := hide hq
  clear hq
  by_cases hq : code.length = 0
  case neg =>
    have d8 : ((code.length : Int) != 0) = true := by rw [bne_iff_ne]; omega
    have HF := hide (stm_code ks k ⟨4, nm, atv, outs, code, args⟩ (by simp) (by simp) hq)
    generalize stmB ks k ⟨4, nm, atv, outs, code, args⟩ = R at *
    clear hq
    go_enter Tryz.func40, Tryz.ntmps40
    go_wp2
    go_ret
    exact ⟨ret_bl (unhide HF).symm, unhide HA⟩
  have d8 : ((code.length : Int) != 0) = false := by rw [bne_eq_false_iff_eq]; omega
  have H_code := hide hq
  clear hq
  have HF : Hid (stmB ks k ⟨4, nm, atv, outs, code, args⟩ = inB (varsOf k) nm) := (stm_good ks k ⟨4, nm, atv, outs, code, args⟩ (Or.inr (Or.inl rfl)) (Or.inr (Or.inr (unhide H_at))) (Or.inr ⟨unhide H_outs, unhide H_args⟩) (Or.inr (Or.inr (unhide H_code)))).trans (by unfold stmTail; rw [if_neg (by simp), if_neg (by simp), if_pos rfl])
  generalize stmB ks k ⟨4, nm, atv, outs, code, args⟩ = R at *
  have HVd : Hid (Calls Tryz.prog 37 #[.agg #[.string k.name, .slice b1 k.ins.length c1, .slice b2 k.outs.length c2, .slice b3 k.locs.length c3, .slice b4 k.mems.length c4, .slice b5 k.insts.length c5, .slice b6 k.body.length c6]] (((w.alloc (.cells #[.slice bm ks.length cm] 29)).alloc (.cells #[.string k.name, .slice b1 k.ins.length c1, .slice b2 k.outs.length c2, .slice b3 k.locs.length c3, .slice b4 k.mems.length c4, .slice b5 k.insts.length c5, .slice b6 k.body.length c6] 40)).alloc (.cells #[.int .i64 4, .string nm, .int .i64 atv, .slice o1 outs.length p1, .slice o2 code.length p2, .slice o3 args.length p3] 47)).drew fun e w'' => ∃ a c, e = .returned (.slice a (varsOf k).length c) ∧ BX w'' ∧ Hid (Calls Tryz.prog 66 #[.slice a (varsOf k).length c, .string nm] w'' fun e w4 => e = .returned (.bool (inB (varsOf k) nm)) ∧ BX w4 ∧ w4.cell? ⟨w.heap.size + 2, 1, none⟩ = some (.string nm) ∧ w4.cell? ⟨w.heap.size + 1, 0, none⟩ = some (.string k.name) ∧ w4.cell? ⟨w.heap.size + 1, 1, none⟩ = some (.slice b1 k.ins.length c1) ∧ w4.cell? ⟨w.heap.size + 1, 2, none⟩ = some (.slice b2 k.outs.length c2) ∧ w4.cell? ⟨w.heap.size + 1, 3, none⟩ = some (.slice b3 k.locs.length c3) ∧ w4.cell? ⟨w.heap.size + 1, 4, none⟩ = some (.slice b4 k.mems.length c4) ∧ w4.cell? ⟨w.heap.size + 1, 5, none⟩ = some (.slice b5 k.insts.length c5) ∧ w4.cell? ⟨w.heap.size + 1, 6, none⟩ = some (.slice b6 k.body.length c6)) ∧ w''.cell? ⟨w.heap.size + 2, 1, none⟩ = some (.string nm) ∧ w''.cell? ⟨w.heap.size + 1, 0, none⟩ = some (.string k.name) ∧ w''.cell? ⟨w.heap.size + 1, 1, none⟩ = some (.slice b1 k.ins.length c1) ∧ w''.cell? ⟨w.heap.size + 1, 2, none⟩ = some (.slice b2 k.outs.length c2) ∧ w''.cell? ⟨w.heap.size + 1, 3, none⟩ = some (.slice b3 k.locs.length c3) ∧ w''.cell? ⟨w.heap.size + 1, 4, none⟩ = some (.slice b4 k.mems.length c4) ∧ w''.cell? ⟨w.heap.size + 1, 5, none⟩ = some (.slice b5 k.insts.length c5) ∧ w''.cell? ⟨w.heap.size + 1, 6, none⟩ = some (.slice b6 k.body.length c6)) := by
    refine (unhide HVR _ (unhide HX1 _ (unhide HXd))).mono ?_
    rintro e w'' ⟨vv, rfl, hVS, hb1⟩
    have hx8 := unhide HX2 _ _ (unhide HXd) hb1
    obtain ⟨a, c, rfl⟩ := hVS.shape
    obtain ⟨q0, q1, q2, q3, q4, q5, q6, q7, q8, q9, q10, q11, q12, q13⟩ := unhide HX4 w'' hx8
    refine ⟨a, c, rfl, hx8, ?_, q9, q1, q2, q3, q4, q5, q6, q7⟩
    show Calls Tryz.prog 66 _ w'' _
    refine (l1In_ok (varsOf k) _ nm w'' hVS).mono ?_
    rintro e w4 ⟨rfl, rfl⟩
    exact ⟨rfl, hx8, q9, q1, q2, q3, q4, q5, q6, q7⟩
  generalize inB (varsOf k) nm = ib at *
  generalize (varsOf k).length = vl2 at *
  have hd0 := unhide HX4 _ (unhide HX0)
  go_enter Tryz.func40, Tryz.ntmps40
  go_wp2_with fail
  obtain ⟨q0, q1, q2, q3, q4, q5, q6, q7, q8, q9, q10, q11, q12, q13⟩ := hd0
  generalize (((w.alloc (.cells #[.slice bm ks.length cm] 29)).alloc (.cells #[.string k.name, .slice b1 k.ins.length c1, .slice b2 k.outs.length c2, .slice b3 k.locs.length c3, .slice b4 k.mems.length c4, .slice b5 k.insts.length c5, .slice b6 k.body.length c6] 40)).alloc (.cells #[.int .i64 4, .string nm, .int .i64 atv, .slice o1 outs.length p1, .slice o2 code.length p2, .slice o3 args.length p3] 47)) = wS at *
  go_region_held3 (fun w' => w'.cell? ⟨w.heap.size + 2, 1, none⟩ = some (.string nm) ∧ w'.cell? ⟨w.heap.size + 1, 0, none⟩ = some (.string k.name) ∧ w'.cell? ⟨w.heap.size + 1, 1, none⟩ = some (.slice b1 k.ins.length c1) ∧ w'.cell? ⟨w.heap.size + 1, 2, none⟩ = some (.slice b2 k.outs.length c2) ∧ w'.cell? ⟨w.heap.size + 1, 3, none⟩ = some (.slice b3 k.locs.length c3) ∧ w'.cell? ⟨w.heap.size + 1, 4, none⟩ = some (.slice b4 k.mems.length c4) ∧ w'.cell? ⟨w.heap.size + 1, 5, none⟩ = some (.slice b5 k.insts.length c5) ∧ w'.cell? ⟨w.heap.size + 1, 6, none⟩ = some (.slice b6 k.body.length c6)) (go_keep) (first | (go_at_call 37; refine (unhide HVd).mono ?_; rintro e w5 ⟨a5, c5', rfl, hB5, HI5, t1, t2, t3, t4, t5, t6, t7, t8⟩; clear HVd) | (go_at_call 66; refine (unhide HI5).mono ?_; rintro e w6 ⟨rfl, hB6, y1, y2, y3, y4, y5, y6, y7, y8⟩; clear HI5))
  have HB6 := hide (unhide HX1 _ hB6)
  go_wp2
  go_ret
  exact ⟨ret_bl (unhide HF).symm, unhide HB6⟩

end Go.Proofs.YtmglbkndjnflkaaGreatDoor
