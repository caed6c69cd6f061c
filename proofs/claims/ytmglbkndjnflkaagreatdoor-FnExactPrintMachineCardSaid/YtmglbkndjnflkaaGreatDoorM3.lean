import Derived.Test.YtmglbkndjnflkaaGreatDoorMP1
import Derived.Deep.RegionHeld3
import Derived.Deep.QuietTactic
import Derived.BigQuiet
namespace Go.Proofs.YtmglbkndjnflkaaGreatDoor
open Go.RowKit
set_option linter.unusedSimpArgs false
set_option linter.unusedVariables false

theorem ret_bl {a b : Bool} (h : a = b) : Ending.returned (Value.bool a) = .returned (.bool b) := by rw [h]
theorem all_no {α : Type} {p : α → Bool} {l : List α} (i : Nat) (hi : i < l.length) (h : p l[i] = false) : l.all p = false := by
  rw [List.all_eq_false]
  exact ⟨l[i], List.getElem_mem hi, by simp [h]⟩
theorem all_yes {α : Type} {p : α → Bool} {l : List α} (h : ∀ j (hj : j < l.length), p l[j] = true) : l.all p = true := by
  rw [List.all_eq_true]
  intro x hx
  obtain ⟨j, hj, rfl⟩ := List.getElem_of_mem hx
  exact h j hj

set_option maxRecDepth 20000 in
set_option maxHeartbeats 4000000 in
theorem l3CodeOK_ok (k : DClass) (code : List DItem) (a1 a2 a3 a4 a5 a6 v : Value) (w : World) (h : ClassIn w k a1 a2 a3 a4 a5 a6) (hv : SlAt 3 32 RItem 0 w v code) :
    Calls Tryz.prog 65 #[.agg #[.string k.name, a1, a2, a3, a4, a5, a6], v] w (Ans (.bool (mcB k code)) w) := by
  have HI := hide h
  obtain ⟨b1, c1, rfl⟩ := h.ins.shape
  obtain ⟨b2, c2, rfl⟩ := h.outs.shape
  obtain ⟨b3, c3, rfl⟩ := h.locs.shape
  obtain ⟨b4, c4, rfl⟩ := h.mems.shape
  obtain ⟨b5, c5, rfl⟩ := h.insts.shape
  obtain ⟨b6, c6, rfl⟩ := h.body.shape
  have n4 := h.mems.lenM
  clear h
  have hA : Below w.heap.size w (w.alloc (.cells #[.string k.name, .slice b1 k.ins.length c1, .slice b2 k.outs.length c2, .slice b3 k.locs.length c3, .slice b4 k.mems.length c4, .slice b5 k.insts.length c5, .slice b6 k.body.length c6] 40)) := (Below.refl _ _).alloc (Nat.le_refl _) _
  have HC0 := hide (l1CodeOK_any 6000 code v (w.alloc (.cells #[.string k.name, .slice b1 k.ins.length c1, .slice b2 k.outs.length c2, .slice b3 k.locs.length c3, .slice b4 k.mems.length c4, .slice b5 k.insts.length c5, .slice b6 k.body.length c6] 40)) (hv.stays RItem_kept hA))
  have hBK : BlkAt (w.alloc (.cells #[.string k.name, .slice b1 k.ins.length c1, .slice b2 k.outs.length c2, .slice b3 k.locs.length c3, .slice b4 k.mems.length c4, .slice b5 k.insts.length c5, .slice b6 k.body.length c6] 40)) w.heap.size 40 #[.string k.name, .slice b1 k.ins.length c1, .slice b2 k.outs.length c2, .slice b3 k.locs.length c3, .slice b4 k.mems.length c4, .slice b5 k.insts.length c5, .slice b6 k.body.length c6] := blk_box w #[.string k.name, .slice b1 k.ins.length c1, .slice b2 k.outs.length c2, .slice b3 k.locs.length c3, .slice b4 k.mems.length c4, .slice b5 k.insts.length c5, .slice b6 k.body.length c6] 40
  obtain ⟨BX, hBX⟩ : ∃ BX : World → Prop, ∀ w', BX w' ↔ Below (w.heap.size + 1) (w.alloc (.cells #[.string k.name, .slice b1 k.ins.length c1, .slice b2 k.outs.length c2, .slice b3 k.locs.length c3, .slice b4 k.mems.length c4, .slice b5 k.insts.length c5, .slice b6 k.body.length c6] 40)) w' := ⟨_, fun _ => Iff.rfl⟩
  have hAz : (w.alloc (.cells #[.string k.name, .slice b1 k.ins.length c1, .slice b2 k.outs.length c2, .slice b3 k.locs.length c3, .slice b4 k.mems.length c4, .slice b5 k.insts.length c5, .slice b6 k.body.length c6] 40)).heap.size = w.heap.size + 1 := by simp
  have HX1 : Hid (∀ w1, BX w1 → Below w.heap.size w w1) := fun w1 h => hA.trans (((hBX w1).1 h).mono (by omega))
  have HX2 : Hid (∀ w1 w2, BX w1 → Below w1.heap.size w1 w2 → BX w2) := fun w1 w2 h h2 => (hBX w2).2 (((hBX w1).1 h).trans (h2.mono (by have := ((hBX w1).1 h).size; omega)))
  have HX4 : Hid (∀ w1, BX w1 → w1.cell? ⟨w.heap.size, 0, none⟩ = some (.string k.name) ∧ w1.cell? ⟨w.heap.size, 1, none⟩ = some (.slice b1 k.ins.length c1) ∧ w1.cell? ⟨w.heap.size, 2, none⟩ = some (.slice b2 k.outs.length c2) ∧ w1.cell? ⟨w.heap.size, 3, none⟩ = some (.slice b3 k.locs.length c3) ∧ w1.cell? ⟨w.heap.size, 4, none⟩ = some (.slice b4 k.mems.length c4) ∧ w1.cell? ⟨w.heap.size, 5, none⟩ = some (.slice b5 k.insts.length c5) ∧ w1.cell? ⟨w.heap.size, 6, none⟩ = some (.slice b6 k.body.length c6)) := fun w1 h => ⟨(hBK.below ((hBX w1).1 h) (by omega)).cell (i := 0) (v := .string k.name) rfl, (hBK.below ((hBX w1).1 h) (by omega)).cell (i := 1) (v := .slice b1 k.ins.length c1) rfl, (hBK.below ((hBX w1).1 h) (by omega)).cell (i := 2) (v := .slice b2 k.outs.length c2) rfl, (hBK.below ((hBX w1).1 h) (by omega)).cell (i := 3) (v := .slice b3 k.locs.length c3) rfl, (hBK.below ((hBX w1).1 h) (by omega)).cell (i := 4) (v := .slice b4 k.mems.length c4) rfl, (hBK.below ((hBX w1).1 h) (by omega)).cell (i := 5) (v := .slice b5 k.insts.length c5) rfl, (hBK.below ((hBX w1).1 h) (by omega)).cell (i := 6) (v := .slice b6 k.body.length c6) rfl⟩
  have HX5 : Hid (∀ w1, BX w1 → w.heap.size + 1 ≤ w1.heap.size) := fun w1 h => by have := ((hBX w1).1 h).size; omega
  have HX0 : Hid (BX (w.alloc (.cells #[.string k.name, .slice b1 k.ins.length c1, .slice b2 k.outs.length c2, .slice b3 k.locs.length c3, .slice b4 k.mems.length c4, .slice b5 k.insts.length c5, .slice b6 k.body.length c6] 40))) := (hBX _).2 (Below.refl _ _)
  have HVR := hide (fun w' (hb : Below w.heap.size w w') => l3Vars_ok k _ _ _ (.slice b4 k.mems.length c4) (.slice b5 k.insts.length c5) (.slice b6 k.body.length c6) w' ((unhide HI).stays hb).ins ((unhide HI).stays hb).outs ((unhide HI).stays hb).locs (unhide HI).sum)
  have hx := hv
  obtain ⟨av, cv, rfl, _, hn, hx⟩ := hx
  unfold Len at hn
  have HVX := hide hx
  have HM : Hid (mcB k code = (scM 6000 code && code.all (mItB k))) := rfl
  generalize mcB k code = R at *
  clear hA hBK hBX hx hv hAz
  cases hs : scM 6000 code
  · rw [hs] at HC0 HM
    have HR : Hid (R = false) := (unhide HM).trans (Bool.false_and _)
    clear HM hs
    go_enter Tryz.func65, Tryz.ntmps65
    go_wp2_with fail
    refine (unhide HC0).mono ?_
    rintro e w1 ⟨rfl, hb1⟩
    have HB := hide (unhide HX1 _ (unhide HX2 _ _ (unhide HX0) hb1))
    clear hb1
    go_wp2
    go_ret
    exact ⟨ret_bl (unhide HR).symm, unhide HB⟩
  rw [hs] at HC0 HM
  have HR : Hid (R = code.all (mItB k)) := (unhide HM).trans (Bool.true_and _)
  clear HM hs
  go_enter Tryz.func65, Tryz.ntmps65
  go_wp2_with fail
  refine (unhide HC0).mono ?_
  rintro e w1 ⟨rfl, hb1⟩
  have HBX1 := hide (unhide HX2 _ _ (unhide HX0) hb1)
  clear hb1
  go_wp2
  go_loopg [12] code.length (fun g i' wr => ∃ (i : Nat), i ≤ code.length ∧ g = code.length - i ∧ i' = .int .i64 i ∧ (∀ j (hj : j < code.length), j < i → mItB k code[j] = true) ∧ BX wr)
  case atStart => exact ⟨0, Nat.zero_le _, by omega, rfl, fun j _ hj => absurd hj (Nat.not_lt_zero _), unhide HBX1⟩
  case round =>
    obtain ⟨i, hi, hg, rfl, hno, hbx⟩ := hrel
    rename World => wr
    have HG := hide hg
    have HNO := hide hno
    have HBX := hide hbx
    have hsz := unhide HX5 _ hbx
    clear hg hno
    by_cases hlt : i < code.length
    · obtain ⟨b, o, cs, hbo, _, hb, hcs, hc0, hR⟩ := unhide HVX i hlt
      subst hbo
      have hc : ∀ j (hj : j < cs.length), wr.cell? ⟨b, o + i * 3 + j, none⟩ = some cs[j] := fun j hj => by rw [(unhide HX1 _ hbx).cell (p := ⟨b, _, none⟩) hb]; exact hc0 j hj
      obtain ⟨rfl, hsn, ho, hvl⟩ := hR
      have q0 := hc 0 (by simp)
      have q1 := hc 1 (by simp)
      have q2 := hc 2 (by simp)
      simp only [Nat.add_zero, List.getElem_cons_zero, List.getElem_cons_succ] at q0 q1 q2
      have hbz : b < wr.heap.size := Nat.lt_of_lt_of_le hb (unhide HX1 _ hbx).size
      have HIT : Hid (mItB k code[i] = (!(decide (20 < code[i].op) && code[i].op != 25) && (code[i].op != 3 || inB (varsOf k) code[i].name) && (code[i].op != 25 || decide (0 ≤ code[i].val ∧ code[i].val < (k.mems.length : Int))))) := rfl
      have HN : Hid (mItB k code[i] = false → R = false) := fun h => (unhide HR).trans (all_no i hlt h)
      have HY : Hid (mItB k code[i] = true → ∀ j (hj : j < code.length), j < i + 1 → mItB k code[j] = true) := fun h j hj hji => by
        by_cases e : j = i
        · subst e; exact h
        · exact unhide HNO j hj (by omega)
      have HB4 : Hid (∀ w', Below wr.heap.size wr w' → BX w') := fun w' h => unhide HX2 _ _ hbx h
      have hal : Below wr.heap.size wr (wr.alloc (.cells #[.int .i64 code[i].op, .int .i64 code[i].val, .string code[i].name] 88)) := (Below.refl _ _).alloc (Nat.le_refl _) _
      obtain ⟨wq, hwq⟩ : ∃ wq, wq = wr.alloc (.cells #[.int .i64 code[i].op, .int .i64 code[i].val, .string code[i].name] 88) := ⟨_, rfl⟩
      have hBI : BlkAt wq wr.heap.size 88 #[.int .i64 code[i].op, .int .i64 code[i].val, .string code[i].name] := by rw [hwq]; exact blk_box _ _ _
      rw [← hwq] at hal
      have HAL := hide hal
      have hbq := unhide HX2 _ _ hbx hal
      have HBQ := hide hbq
      obtain ⟨s0, s1, s2, s3, s4, s5, s6⟩ := unhide HX4 wq hbq
      have y0 := hBI.cell (i := 0) (v := .int .i64 code[i].op) rfl
      have y1 := hBI.cell (i := 1) (v := .int .i64 code[i].val) rfl
      have y2 := hBI.cell (i := 2) (v := .string code[i].name) rfl
      have HBI := hide hBI
      have hlt' : (i : Int) < (code.length : Int) := by omega
      generalize mItB k code[i] = mi at *
      clear hc hc0 hcs hsn ho hvl hal hbq hBI hbx
      generalize code[i].op = op at *
      generalize code[i].val = vl at *
      generalize code[i].name = nm at *
      have HQB : Hid (Below w.heap.size w wq) := unhide HX1 _ (unhide HBQ)
      have HQn : Hid (∀ n, BX (wq.drewN n) ∧ Below w.heap.size w (wq.drewN n)) := fun n => by
        have h : BX (wq.drewN n) := unhide HX2 _ _ (unhide HBQ) ⟨rfl, rfl, rfl, Nat.le_refl _, fun _ _ => rfl⟩
        exact ⟨h, unhide HX1 _ h⟩
      by_cases hA : 20 < op ∧ op ≠ 25
      · have e1 : decide (20 < op) = true := decide_eq_true hA.1
        have e2 : (op != 25) = true := by simpa using hA.2
        have HF := hide (unhide HN (by rw [unhide HIT, e1, e2]; rfl))
        clear hA HN HY HIT
        have HQ2 := HQB
        rw [hwq] at HQ2
        clear hwq
        go_wp2
        go_ret
        exact ⟨ret_bl (unhide HF).symm, unhide HQ2⟩
      have e12 : (decide (20 < op) && op != 25) = false := by
        by_cases h : 20 < op
        · have : op = 25 := by omega
          simp [this]
        · simp [h]
      rw [e12, Bool.not_false, Bool.true_and] at HIT
      by_cases h3 : op = 3
      · have y3 : (op == 3) = true := by simp [h3]
        have y3' : (op != 3) = false := by simp [h3]
        have y5 : (op != 25) = true := by simp [h3]
        have y5' : (op == 25) = false := by simp [h3]
        have e1 : decide (20 < op) = false := decide_eq_false (by omega)
        rw [y3', y5, Bool.false_or, Bool.true_or, Bool.and_true] at HIT
        have HVd : Hid (Calls Tryz.prog 37 #[.agg #[.string k.name, .slice b1 k.ins.length c1, .slice b2 k.outs.length c2, .slice b3 k.locs.length c3, .slice b4 k.mems.length c4, .slice b5 k.insts.length c5, .slice b6 k.body.length c6]] wq.drew fun e w'' => ∃ a c, e = .returned (.slice a (varsOf k).length c) ∧ BX w'' ∧ Hid (Calls Tryz.prog 66 #[.slice a (varsOf k).length c, .string nm] w'' fun e w3 => e = .returned (.bool (inB (varsOf k) nm)) ∧ BX w3 ∧ w3.cell? ⟨wr.heap.size, 0, none⟩ = some (.int .i64 op) ∧ w3.cell? ⟨wr.heap.size, 2, none⟩ = some (.string nm) ∧ w3.cell? ⟨w.heap.size, 0, none⟩ = some (.string k.name) ∧ w3.cell? ⟨w.heap.size, 1, none⟩ = some (.slice b1 k.ins.length c1) ∧ w3.cell? ⟨w.heap.size, 2, none⟩ = some (.slice b2 k.outs.length c2) ∧ w3.cell? ⟨w.heap.size, 3, none⟩ = some (.slice b3 k.locs.length c3) ∧ w3.cell? ⟨w.heap.size, 4, none⟩ = some (.slice b4 k.mems.length c4) ∧ w3.cell? ⟨w.heap.size, 5, none⟩ = some (.slice b5 k.insts.length c5) ∧ w3.cell? ⟨w.heap.size, 6, none⟩ = some (.slice b6 k.body.length c6)) ∧ w''.cell? ⟨wr.heap.size, 0, none⟩ = some (.int .i64 op) ∧ w''.cell? ⟨wr.heap.size, 2, none⟩ = some (.string nm) ∧ w''.cell? ⟨w.heap.size, 0, none⟩ = some (.string k.name) ∧ w''.cell? ⟨w.heap.size, 1, none⟩ = some (.slice b1 k.ins.length c1) ∧ w''.cell? ⟨w.heap.size, 2, none⟩ = some (.slice b2 k.outs.length c2) ∧ w''.cell? ⟨w.heap.size, 3, none⟩ = some (.slice b3 k.locs.length c3) ∧ w''.cell? ⟨w.heap.size, 4, none⟩ = some (.slice b4 k.mems.length c4) ∧ w''.cell? ⟨w.heap.size, 5, none⟩ = some (.slice b5 k.insts.length c5) ∧ w''.cell? ⟨w.heap.size, 6, none⟩ = some (.slice b6 k.body.length c6)) := by
          have hdq : Below wq.heap.size wq wq.drew := (Below.refl _ wq).drew
          refine (unhide HVR wq.drew ((unhide HQB).trans (hdq.mono (unhide HQB).size))).mono ?_
          rintro e w'' ⟨vv, rfl, hVS, hb1⟩
          have h8 : Below wq.heap.size wq w'' := hdq.trans hb1
          have hx8 := unhide HX2 _ _ (unhide HBQ) h8
          obtain ⟨a, c, rfl⟩ := hVS.shape
          have u0 : w''.cell? ⟨wr.heap.size, 0, none⟩ = some (.int .i64 op) := by rw [h8.cell (p := ⟨wr.heap.size, _, none⟩) (unhide HBI).lt]; exact y0
          have u2 : w''.cell? ⟨wr.heap.size, 2, none⟩ = some (.string nm) := by rw [h8.cell (p := ⟨wr.heap.size, _, none⟩) (unhide HBI).lt]; exact y2
          refine ⟨a, c, rfl, hx8, ?_, u0, u2, unhide HX4 w'' hx8⟩
          show Calls Tryz.prog 66 _ w'' _
          refine (l1In_ok (varsOf k) _ nm w'' hVS).mono ?_
          rintro e w3 ⟨rfl, rfl⟩
          exact ⟨rfl, hx8, u0, u2, unhide HX4 _ hx8⟩
        have hop : op = 3 := h3
        clear h3 hA e12
        generalize inB (varsOf k) nm = ib at *
        generalize (varsOf k).length = vl2 at *
        cases ib
        · have HF := hide (unhide HN (unhide HIT))
          clear HN HY HIT hop
          go_wp2_with fail
          rw [← hwq]
          clear hwq
          go_region_held3 (fun w' => w'.cell? ⟨wr.heap.size, 0, none⟩ = some (.int .i64 op) ∧ w'.cell? ⟨wr.heap.size, 2, none⟩ = some (.string nm) ∧ w'.cell? ⟨w.heap.size, 0, none⟩ = some (.string k.name) ∧ w'.cell? ⟨w.heap.size, 1, none⟩ = some (.slice b1 k.ins.length c1) ∧ w'.cell? ⟨w.heap.size, 2, none⟩ = some (.slice b2 k.outs.length c2) ∧ w'.cell? ⟨w.heap.size, 3, none⟩ = some (.slice b3 k.locs.length c3) ∧ w'.cell? ⟨w.heap.size, 4, none⟩ = some (.slice b4 k.mems.length c4) ∧ w'.cell? ⟨w.heap.size, 5, none⟩ = some (.slice b5 k.insts.length c5) ∧ w'.cell? ⟨w.heap.size, 6, none⟩ = some (.slice b6 k.body.length c6)) (go_keep) (first | (go_at_call 37; refine (unhide HVd).mono ?_; rintro e w5 ⟨a5, c5', rfl, hB5, HI5, t0, t1, t2, t3, t4, t5, t6, t7, t8⟩; clear HVd) | (go_at_call 66; refine (unhide HI5).mono ?_; rintro e w6 ⟨rfl, hB6, z0, z1, z2, z3, z4, z5, z6, z7, z8⟩; clear HI5))
          have HB6 := hide (unhide HX1 _ hB6)
          go_wp2
          go_ret
          exact ⟨ret_bl (unhide HF).symm, unhide HB6⟩
        · have HY2 := hide (unhide HY (unhide HIT))
          clear HN HY HIT hop
          go_wp2_with fail
          rw [← hwq]
          clear hwq
          go_region_held3 (fun w' => w'.cell? ⟨wr.heap.size, 0, none⟩ = some (.int .i64 op) ∧ w'.cell? ⟨wr.heap.size, 2, none⟩ = some (.string nm) ∧ w'.cell? ⟨w.heap.size, 0, none⟩ = some (.string k.name) ∧ w'.cell? ⟨w.heap.size, 1, none⟩ = some (.slice b1 k.ins.length c1) ∧ w'.cell? ⟨w.heap.size, 2, none⟩ = some (.slice b2 k.outs.length c2) ∧ w'.cell? ⟨w.heap.size, 3, none⟩ = some (.slice b3 k.locs.length c3) ∧ w'.cell? ⟨w.heap.size, 4, none⟩ = some (.slice b4 k.mems.length c4) ∧ w'.cell? ⟨w.heap.size, 5, none⟩ = some (.slice b5 k.insts.length c5) ∧ w'.cell? ⟨w.heap.size, 6, none⟩ = some (.slice b6 k.body.length c6)) (go_keep) (first | (go_at_call 37; refine (unhide HVd).mono ?_; rintro e w5 ⟨a5, c5', rfl, hB5, HI5, t0, t1, t2, t3, t4, t5, t6, t7, t8⟩; clear HVd) | (go_at_call 66; refine (unhide HI5).mono ?_; rintro e w6 ⟨rfl, hB6, z0, z1, z2, z3, z4, z5, z6, z7, z8⟩; clear HI5))
          have HB6 := hide hB6
          go_wp2
          go_roundg (code.length - (i + 1))
          case measure => have := unhide HG; omega
          case rel => exact ⟨i + 1, by omega, rfl, by go_num, unhide HY2, unhide HB6⟩
      have y3 : (op == 3) = false := by simp [h3]
      have y3' : (op != 3) = true := by simp [h3]
      rw [y3', Bool.true_or, Bool.true_and] at HIT
      clear h3
      by_cases h25 : op = 25
      · have y5 : (op == 25) = true := by simp [h25]
        have y5' : (op != 25) = false := by simp [h25]
        have e1 : decide (20 < op) = true := decide_eq_true (by omega)
        rw [y5', Bool.false_or] at HIT
        clear h25 hA e12
        by_cases hv0 : vl < 0
        · have f1 : decide (vl < 0) = true := decide_eq_true hv0
          have HF := hide (unhide HN (by rw [unhide HIT, decide_eq_false_iff_not]; omega))
          clear HN HY HIT
          go_wp2_with fail
          rw [← hwq]
          clear hwq
          go_quiet ((fail))
          go_wp2
          go_ret
          exact ⟨ret_bl (unhide HF).symm, (unhide HQn _).2⟩
        have f1 : decide (vl < 0) = false := decide_eq_false hv0
        by_cases hvm : (k.mems.length : Int) ≤ vl
        · have f2 : decide ((k.mems.length : Int) ≤ vl) = true := decide_eq_true hvm
          have HF := hide (unhide HN (by rw [unhide HIT, decide_eq_false_iff_not]; omega))
          clear HN HY HIT
          go_wp2_with fail
          rw [← hwq]
          clear hwq
          go_quiet ((fail))
          go_wp2
          go_ret
          exact ⟨ret_bl (unhide HF).symm, (unhide HQn _).2⟩
        · have f2 : decide ((k.mems.length : Int) ≤ vl) = false := decide_eq_false hvm
          have HY2 := hide (unhide HY (by rw [unhide HIT, decide_eq_true_iff]; omega))
          clear HN HY HIT
          go_wp2_with fail
          rw [← hwq]
          clear hwq
          go_quiet ((fail))
          go_wp2
          go_roundg (code.length - (i + 1))
          case measure => have := unhide HG; omega
          case rel => exact ⟨i + 1, by omega, rfl, by go_num, unhide HY2, (unhide HQn _).1⟩
      · have y5 : (op == 25) = false := by simp [h25]
        have y5' : (op != 25) = true := by simp [h25]
        have e1 : decide (20 < op) = false := decide_eq_false (by omega)
        rw [y5', Bool.true_or] at HIT
        have HY2 := hide (unhide HY (unhide HIT))
        clear HN HY HIT h25 hA e12
        go_wp2_with fail
        rw [← hwq]
        clear hwq
        go_quiet ((fail))
        go_wp2
        go_roundg (code.length - (i + 1))
        case measure => have := unhide HG; omega
        case rel => exact ⟨i + 1, by omega, rfl, by go_num, unhide HY2, (unhide HQn _).1⟩
    · have e : i = code.length := by omega
      subst e
      have HF : Hid (R = true) := (unhide HR).trans (all_yes (fun j hj => unhide HNO j hj hj))
      have HB := hide (unhide HX1 _ hbx)
      go_wp2
      go_ret
      exact ⟨ret_bl (unhide HF).symm, unhide HB⟩

end Go.Proofs.YtmglbkndjnflkaaGreatDoor
namespace Go.Proofs.YtmglbkndjnflkaaGreatDoor
open Go.RowKit
set_option linter.unusedSimpArgs false
set_option linter.unusedVariables false

def kindsOf (body : List DStm) : List Int := body.map (·.kind)
theorem pGo_step (ks : List Int) (j : Nat) (hj : j < ks.length) (d o : Int) : pGo (ks.drop j) j d o = (if ks[j] = 4 then pGo (ks.drop (j + 1)) (j + 1) (d + 1) o
    else if ks[j] = 5 then (if d = 1 then (if 0 ≤ o then (-1, -1) else pGo (ks.drop (j + 1)) (j + 1) d (j : Int)) else pGo (ks.drop (j + 1)) (j + 1) d o)
    else if ks[j] = 6 then (if d - 1 = 0 then (o, (j : Int)) else pGo (ks.drop (j + 1)) (j + 1) (d - 1) o)
    else pGo (ks.drop (j + 1)) (j + 1) d o) := by
  rw [List.drop_eq_getElem_cons hj]
  rfl
theorem kinds_at (body : List DStm) (j : Nat) (hj : j < body.length) : (kindsOf body)[j]'(by unfold kindsOf; simpa using hj) = body[j].kind := by
  unfold kindsOf
  simp

set_option maxHeartbeats 1000000 in
theorem l3Parts_ok (body : List DStm) (v : Value) (i : Nat) (w : World) (hv : SlAt 6 104 RStm 0 w v body) (hi : i ≤ body.length) :
    Calls Tryz.prog 42 #[v, .int .i64 (i : Int)] w fun e w' => e = .returned (.tuple #[.int .i64 (partsI (kindsOf body) i).1, .int .i64 (partsI (kindsOf body) i).2]) ∧ w' = w := by
  obtain ⟨a, cap, rfl, _, hn, hx⟩ := hv
  unfold Len at hn
  have HX := hide hx
  have hkl : (kindsOf body).length = body.length := by unfold kindsOf; simp
  have HR : Hid (partsI (kindsOf body) i = pGo ((kindsOf body).drop i) i 0 (-1)) := rfl
  generalize partsI (kindsOf body) i = R at *
  have HST := hide (fun j (hj : j < body.length) d o => by
    have h := pGo_step (kindsOf body) j (by rw [hkl]; exact hj) d o
    rw [kinds_at body j hj] at h
    exact h)
  have HEND : Hid (∀ d o, pGo ((kindsOf body).drop body.length) body.length d o = (-1, -1)) := fun d o => by
    rw [List.drop_of_length_le (by rw [hkl]; exact Nat.le_refl _)]
    rfl
  generalize kindsOf body = ks at *
  clear hx hkl
  go_enter Tryz.func42, Tryz.ntmps42
  go_wp2
  go_loopg [6, 7, 8] (body.length - i) (fun g dv ov jv wr => ∃ (j : Nat) (d o : Int), j ≤ body.length ∧ g = body.length - j ∧ jv = .int .i64 j ∧ dv = .int .i64 d ∧ ov = .int .i64 o ∧ -(j : Int) ≤ d ∧ d ≤ j ∧ -1 ≤ o ∧ o ≤ j ∧ R = pGo (ks.drop j) j d o ∧ wr = w)
  case atStart => exact ⟨i, 0, -1, hi, by omega, rfl, rfl, rfl, by omega, by omega, by omega, by omega, unhide HR, rfl⟩
  case round =>
    obtain ⟨j, d, o, hj, hg, rfl, rfl, rfl, hd1, hd2, ho1, ho2, hR, hw9⟩ := hrel
    obtain rfl := hw9.symm
    have HG := hide hg
    have HRR := hide hR
    clear hg hR
    by_cases hlt : j < body.length
    · obtain ⟨b, o5, cs, hbo, _, hb, hcs, hc, ⟨q1, q2, q3, rfl, _⟩⟩ := unhide HX j hlt
      subst hbo
      have r0 := hc 0 (by simp)
      simp only [Nat.add_zero, List.getElem_cons_zero] at r0
      have HS := hide ((unhide HRR).trans (unhide HST j hlt d o))
      have hlt' : (j : Int) < (body.length : Int) := by omega
      clear hc hcs
      generalize body[j].kind = kd at *
      by_cases h4 : kd = 4
      · have y4 : (kd == 4) = true := by simp [h4]
        have hS := unhide HS
        rw [if_pos h4] at hS
        have HS2 := hide hS
        clear hS HS h4
        go_wp2
        go_roundg (body.length - (j + 1))
        case measure => have := unhide HG; omega
        case rel => exact ⟨j + 1, d + 1, o, by omega, rfl, by go_num, rfl, rfl, by omega, by omega, by omega, by omega, unhide HS2, rfl⟩
      have y4 : (kd == 4) = false := by simp [h4]
      have hS := unhide HS
      rw [if_neg h4] at hS
      clear HS h4
      by_cases h5 : kd = 5
      · have y5 : (kd == 5) = true := by simp [h5]
        rw [if_pos h5] at hS
        clear h5
        by_cases h1 : d = 1
        · have e1 : (d == 1) = true := by simp [h1]
          rw [if_pos h1] at hS
          by_cases h0 : 0 ≤ o
          · have e2 : decide (0 ≤ o) = true := decide_eq_true h0
            rw [if_pos h0] at hS
            have HS2 := hide hS
            clear hS h1
            go_wp2
            go_ret2
            exact ⟨ret_two (unhide HS2), rfl⟩
          · have e2 : decide (0 ≤ o) = false := decide_eq_false h0
            rw [if_neg h0] at hS
            have HS2 := hide hS
            clear hS h1
            go_wp2
            go_roundg (body.length - (j + 1))
            case measure => have := unhide HG; omega
            case rel => exact ⟨j + 1, d, (j : Int), by omega, rfl, by go_num, rfl, rfl, by omega, by omega, by omega, by omega, unhide HS2, rfl⟩
        · have e1 : (d == 1) = false := by simp [h1]
          rw [if_neg h1] at hS
          have HS2 := hide hS
          clear hS h1
          go_wp2
          go_roundg (body.length - (j + 1))
          case measure => have := unhide HG; omega
          case rel => exact ⟨j + 1, d, o, by omega, rfl, by go_num, rfl, rfl, by omega, by omega, by omega, by omega, unhide HS2, rfl⟩
      have y5 : (kd == 5) = false := by simp [h5]
      rw [if_neg h5] at hS
      clear h5
      by_cases h6 : kd = 6
      · have y6 : (kd == 6) = true := by simp [h6]
        rw [if_pos h6] at hS
        clear h6
        by_cases h1 : d - 1 = 0
        · have e1 : (d - 1 == 0) = true := by simp [h1]
          rw [if_pos h1] at hS
          have HS2 := hide hS
          clear hS h1
          go_wp2
          go_ret2
          exact ⟨ret_two (unhide HS2), rfl⟩
        · have e1 : (d - 1 == 0) = false := by simp [h1]
          rw [if_neg h1] at hS
          have HS2 := hide hS
          clear hS h1
          go_wp2
          go_roundg (body.length - (j + 1))
          case measure => have := unhide HG; omega
          case rel => exact ⟨j + 1, d - 1, o, by omega, rfl, by go_num, rfl, rfl, by omega, by omega, by omega, by omega, unhide HS2, rfl⟩
      · have y6 : (kd == 6) = false := by simp [h6]
        rw [if_neg h6] at hS
        have HS2 := hide hS
        clear hS h6
        go_wp2
        go_roundg (body.length - (j + 1))
        case measure => have := unhide HG; omega
        case rel => exact ⟨j + 1, d, o, by omega, rfl, by go_num, rfl, rfl, by omega, by omega, by omega, by omega, unhide HS2, rfl⟩
    · have e : j = body.length := by omega
      subst e
      have HE := hide ((unhide HRR).trans (unhide HEND d o))
      go_wp2
      go_ret2
      exact ⟨ret_two (unhide HE), rfl⟩

end Go.Proofs.YtmglbkndjnflkaaGreatDoor
namespace Go.Proofs.YtmglbkndjnflkaaGreatDoor
open Go.RowKit
set_option linter.unusedSimpArgs false
set_option linter.unusedVariables false

def subK {α : Type} (ks : List α) (p q : Nat) : List α := (ks.drop p).take (q - p)
theorem subK_len {α : Type} (ks : List α) (p q : Nat) (h1 : p ≤ q) (h2 : q ≤ ks.length) : (subK ks p q).length = q - p := by
  unfold subK
  rw [List.length_take, List.length_drop]
  omega
theorem subK_map {α β : Type} (f : α → β) (ks : List α) (p q : Nat) : (subK ks p q).map f = subK (ks.map f) p q := by
  unfold subK
  rw [List.map_take, List.map_drop]
theorem SlAt.sub {α : Type} {sz byt : Nat} {R : Nat → World → List Value → α → Prop} {w : World} {b o n c : Nat} {xs : List α} (h : SlAt sz byt R 0 w (.slice (some ⟨b, o, none⟩) n c) xs) (p q : Nat) (hp : p ≤ q) (hq : q ≤ xs.length) :
    SlAt sz byt R 0 w (.slice (some ⟨b, o + p * sz, none⟩) (q - p) (c - p)) (subK xs p q) := by
  obtain ⟨a', c', hv, ⟨h1, h2⟩, h3, hx⟩ := h
  simp only [Value.slice.injEq] at hv
  obtain ⟨rfl, _, rfl⟩ := hv
  have hl := subK_len xs p q hp hq
  have hm : (q - p) * byt ≤ xs.length * byt := Nat.mul_le_mul_right _ (by omega)
  refine ⟨_, c - p, by rw [hl], ⟨by rw [hl]; unfold Len at *; omega, by omega⟩, by rw [hl]; unfold Len at *; omega, fun i hi => ?_⟩
  obtain ⟨b', o', cs, r1, r2, r3, r4, r5, r6⟩ := hx (p + i) (by omega)
  simp only [Option.some.injEq, Addr.mk.injEq] at r1
  obtain ⟨rfl, rfl, _⟩ := r1
  refine ⟨b, o + p * sz, cs, rfl, r2, r3, r4, fun j hj => ?_, ?_⟩
  · rw [← r5 j hj]
    congr 2
    rw [Nat.add_mul]
    omega
  · have e : (subK xs p q)[i] = xs[p + i] := by simp [subK]
    rw [e]
    exact r6

/-- Do the Ifs, Elses and Ends belong together from place i on? -/
def nestL (rec : List Int → Int → Bool) (ks : List Int) (depth : Int) : Nat → Nat → Bool
  | 0, _ => true
  | f + 1, i => match ks[i]? with
    | none => true
    | some kd =>
      if kd = 5 ∨ kd = 6 then false
      else if kd = 4 then
        (if (partsI ks i).1 < 0 ∨ (partsI ks i).2 < 0 then false
        else if ((i : Int) + 1 < (partsI ks i).1 ∨ (partsI ks i).1 + 1 < (partsI ks i).2) ∧ 20 < depth + 1 then false
        else if rec (subK ks (i + 1) (partsI ks i).1.toNat) (depth + 1) = false then false
        else if rec (subK ks ((partsI ks i).1.toNat + 1) (partsI ks i).2.toNat) (depth + 1) = false then false
        else nestL rec ks depth f ((partsI ks i).2.toNat + 1))
      else nestL rec ks depth f (i + 1)
def nestF : Nat → List Int → Int → Bool
  | 0, _, _ => true
  | f + 1, ks, d => nestL (nestF f) ks d (ks.length + 1) 0

theorem nestL_step (rec : List Int → Int → Bool) (ks : List Int) (depth : Int) (f i : Nat) (hi : i < ks.length) : nestL rec ks depth (f + 1) i = (if ks[i] = 5 ∨ ks[i] = 6 then false
      else if ks[i] = 4 then
        (if (partsI ks i).1 < 0 ∨ (partsI ks i).2 < 0 then false
        else if ((i : Int) + 1 < (partsI ks i).1 ∨ (partsI ks i).1 + 1 < (partsI ks i).2) ∧ 20 < depth + 1 then false
        else if rec (subK ks (i + 1) (partsI ks i).1.toNat) (depth + 1) = false then false
        else if rec (subK ks ((partsI ks i).1.toNat + 1) (partsI ks i).2.toNat) (depth + 1) = false then false
        else nestL rec ks depth f ((partsI ks i).2.toNat + 1))
      else nestL rec ks depth f (i + 1)) := by
  rw [nestL, List.getElem?_eq_getElem hi]
theorem nestL_end (rec : List Int → Int → Bool) (ks : List Int) (depth : Int) (f : Nat) : nestL rec ks depth f ks.length = true := by
  cases f with
  | zero => rfl
  | succ f =>
    rw [nestL, List.getElem?_eq_none (Nat.le_refl _)]

set_option maxRecDepth 20000 in
set_option maxHeartbeats 4000000 in
theorem l3Nested_ok : ∀ (f : Nat) (body : List DStm) (v : Value) (depth : Int) (w : World), SlAt 6 104 RStm 0 w v body → body.length < f → 0 ≤ depth → depth + body.length ≤ 281474976710656 →
    Calls Tryz.prog 41 #[v, .int .i64 depth] w fun e w' => e = .returned (.bool (nestF f (kindsOf body) depth)) ∧ w' = w := by
  intro f
  induction f with
  | zero => intro body v depth w _ h; omega
  | succ f ih =>
    intro body v depth w hv hlf hd0 hd1
    have HPT := hide (fun i (hi : i ≤ body.length) => l3Parts_ok body v i w hv hi)
    have HV := hide hv
    obtain ⟨a, cap, rfl, ⟨_, hcap⟩, hn, hx⟩ := hv
    unfold Len at hn
    have HX := hide hx
    have hkl : (kindsOf body).length = body.length := by unfold kindsOf; simp
    have HR : Hid (nestF (f + 1) (kindsOf body) depth = nestL (nestF f) (kindsOf body) depth (body.length + 1) 0) := by
      show nestF (f + 1) (kindsOf body) depth = _
      rw [nestF, hkl]
    have HK := hide (fun j (hj : j < body.length) => kinds_at body j hj)
    have HST := hide (fun g i (hi : i < body.length) => by
      have h := nestL_step (nestF f) (kindsOf body) depth g i (by rw [hkl]; exact hi)
      rw [unhide HK i hi] at h
      exact h)
    have HEN : Hid (∀ g, nestL (nestF f) (kindsOf body) depth g body.length = true) := fun g => by
      have := nestL_end (nestF f) (kindsOf body) depth g
      rw [hkl] at this
      exact this
    have HPB := hide (fun i (hi : i < body.length) (h4 : body[i].kind = 4) h1 h2 => by
      have h := parts_bd (kindsOf body) i (by rw [hkl]; exact hi) (by rw [unhide HK i hi]; exact h4) h1 h2
      rw [hkl] at h
      exact h)
    have HIH : Hid (∀ p q b o, a = some ⟨b, o, none⟩ → p ≤ q → q ≤ body.length → 0 < p → Calls Tryz.prog 41 #[.slice (some ⟨b, o + p * 6, none⟩) (q - p) (cap - p), .int .i64 (depth + 1)] w fun e w' => e = .returned (.bool (nestF f (subK (kindsOf body) p q) (depth + 1))) ∧ w' = w) := fun p q b o ha hp hq h0 => by
      subst ha
      have hs := (unhide HV).sub p q hp hq
      have hl := subK_len body p q hp hq
      have h := ih (subK body p q) _ (depth + 1) w hs (by omega) (by omega) (by omega)
      have e : kindsOf (subK body p q) = subK (kindsOf body) p q := subK_map _ _ _ _
      rw [e] at h
      exact h
    clear hx hkl ih HV HK
    generalize nestF (f + 1) (kindsOf body) depth = R at *
    generalize kindsOf body = ks at *
    go_enter Tryz.func41, Tryz.ntmps41
    go_wp2
    go_loopg [5] (body.length) (fun g iv wr => ∃ (i fu : Nat), i ≤ body.length ∧ g = body.length - i ∧ iv = .int .i64 i ∧ body.length < fu + i ∧ R = nestL (nestF f) ks depth fu i ∧ wr = w)
    case atStart => exact ⟨0, body.length + 1, Nat.zero_le _, by omega, rfl, by omega, unhide HR, rfl⟩
    case round =>
      obtain ⟨i, fu, hi, hg, rfl, hfu, hR, hw9⟩ := hrel
      obtain rfl := hw9.symm
      have HG := hide hg
      have HRR := hide hR
      clear hg hR
      by_cases hlt : i < body.length
      · obtain ⟨b, o, cs, hbo, _, hb, hcs, hc, ⟨q1, q2, q3, rfl, _⟩⟩ := unhide HX i hlt
        have HAB := hide hbo
        have r0 := hc 0 (by simp)
        simp only [Nat.add_zero, List.getElem_cons_zero] at r0
        obtain ⟨fu', rfl⟩ : ∃ fu', fu = fu' + 1 := ⟨fu - 1, by omega⟩
        have HS := hide ((unhide HRR).trans (unhide HST fu' i hlt))
        have HPB1 := hide (unhide HPB i hlt)
        have HPT1 := hide (unhide HPT i hi)
        have HI2 := hide (fun p q => unhide HIH p q b o (unhide HAB))
        subst hbo
        have hlt' : (i : Int) < (body.length : Int) := by omega
        clear hc hcs HRR
        generalize body[i].kind = kd at *
        by_cases h56 : kd = 5 ∨ kd = 6
        · have hS := unhide HS
          rw [if_pos h56] at hS
          have HF := hide hS
          clear hS HS HPB1 HPT1 HI2
          rcases h56 with rfl | rfl
          all_goals
            go_wp2
            go_ret
            exact ⟨by rw [unhide HF]; rfl, rfl⟩
        have y5 : (kd == 5) = false := by rw [beq_eq_false_iff_ne]; omega
        have y6 : (kd == 6) = false := by rw [beq_eq_false_iff_ne]; omega
        have hS := unhide HS
        rw [if_neg h56] at hS
        by_cases h4 : kd = 4
        case neg =>
          rw [if_neg h4] at hS
          have HF := hide hS
          have y4 : (kd == 4) = false := by rw [beq_eq_false_iff_ne]; omega
          clear hS HS h56 h4 HPB1 HPT1 HI2
          go_wp2
          go_roundg (body.length - (i + 1))
          case measure => have := unhide HG; omega
          case rel => exact ⟨i + 1, fu', by omega, rfl, by go_num, by omega, unhide HF, rfl⟩
        rw [if_pos h4] at hS
        have y4 : (kd == 4) = true := by simp [h4]
        have HPB2 := hide (unhide HPB1 h4)
        have HSS := hide hS
        clear hS HS HPB1 h56 h4
        generalize partsI ks i = pp at *
        obtain ⟨po, pe⟩ := pp
        simp only at HSS HPB2 HPT1
        by_cases hneg : po < 0 ∨ pe < 0
        · have hS := unhide HSS
          rw [if_pos hneg] at hS
          have HF := hide hS
          clear hS HSS HPB2 HI2
          by_cases hp0 : po < 0
          · have e1 : decide (po < 0) = true := decide_eq_true hp0
            go_wp2_with fail
            refine (unhide HPT1).mono ?_
            rintro e w9 ⟨rfl, h9⟩
            obtain rfl := h9.symm
            go_wp2
            go_ret
            exact ⟨by rw [unhide HF]; rfl, rfl⟩
          · have e1 : decide (po < 0) = false := decide_eq_false hp0
            have e2 : decide (pe < 0) = true := decide_eq_true (by omega)
            go_wp2_with fail
            refine (unhide HPT1).mono ?_
            rintro e w9 ⟨rfl, h9⟩
            obtain rfl := h9.symm
            go_wp2
            go_ret
            exact ⟨by rw [unhide HF]; rfl, rfl⟩
        have hpb := unhide HPB2 (by omega) (by omega)
        obtain ⟨pn, rfl⟩ := Int.eq_ofNat_of_zero_le (show 0 ≤ po by omega)
        obtain ⟨en, rfl⟩ := Int.eq_ofNat_of_zero_le (show 0 ≤ pe by omega)
        have hS := unhide HSS
        rw [if_neg hneg] at hS
        simp only [Int.toNat_natCast] at hS
        have e1 : decide ((pn : Int) < 0) = false := by rw [decide_eq_false_iff_not]; omega
        have e2 : decide ((en : Int) < 0) = false := by rw [decide_eq_false_iff_not]; omega
        have HC1 := hide (unhide HI2 (i + 1) pn (by omega) (by omega) (by omega))
        have HC2 := hide (unhide HI2 (pn + 1) en (by omega) (by omega) (by omega))
        have g1 : (0 : Int) ≤ (i : Int) + 1 := by omega
        have g2 : (i : Int) + 1 ≤ (pn : Int) := by omega
        have g3 : (pn : Int) ≤ (cap : Int) := by omega
        have g4 : (0 : Int) ≤ (pn : Int) + 1 := by omega
        have g5 : (pn : Int) + 1 ≤ (en : Int) := by omega
        have g6 : (en : Int) ≤ (cap : Int) := by omega
        have hnb : i + 1 ≤ pn ∧ pn + 1 ≤ en ∧ en < body.length := by omega
        clear HPB2 HI2 hneg HSS hpb
        generalize nestF f (subK ks (i + 1) pn) (depth + 1) = v1 at *
        generalize nestF f (subK ks (pn + 1) en) (depth + 1) = v2 at *
        by_cases hin1 : (i : Int) + 1 < (pn : Int)
        · have i1 : decide ((i : Int) + 1 < (pn : Int)) = true := decide_eq_true hin1
          by_cases hdd : 20 < depth + 1
          · have f1 : decide (20 < depth + 1) = true := decide_eq_true hdd
            rw [if_pos ⟨Or.inl hin1, hdd⟩] at hS
            have HF := hide hS
            clear hS HC1 HC2
            go_wp2_with fail
            refine (unhide HPT1).mono ?_
            rintro e w9 ⟨rfl, h9⟩
            obtain rfl := h9.symm
            go_wp2
            go_ret
            exact ⟨by rw [unhide HF]; rfl, rfl⟩
          · have f1 : decide (20 < depth + 1) = false := decide_eq_false hdd
            rw [if_neg (fun h => hdd h.2)] at hS
            cases v1
            · rw [if_pos rfl] at hS
              have HF := hide hS
              clear hS HC2
              go_wp2_with fail
              refine (unhide HPT1).mono ?_
              rintro e w9 ⟨rfl, h9⟩
              obtain rfl := h9.symm
              go_wp2_with fail
              refine (unhide HC1).mono ?_
              rintro e w8 ⟨rfl, h8⟩
              obtain rfl := h8.symm
              go_wp2
              go_ret
              exact ⟨by rw [unhide HF]; rfl, rfl⟩
            rw [if_neg (by simp)] at hS
            cases v2
            · rw [if_pos rfl] at hS
              have HF := hide hS
              clear hS
              go_wp2_with fail
              refine (unhide HPT1).mono ?_
              rintro e w9 ⟨rfl, h9⟩
              obtain rfl := h9.symm
              go_wp2_with fail
              refine (unhide HC1).mono ?_
              rintro e w8 ⟨rfl, h8⟩
              obtain rfl := h8.symm
              go_wp2_with fail
              refine (unhide HC2).mono ?_
              rintro e w7 ⟨rfl, h7⟩
              obtain rfl := h7.symm
              go_wp2
              go_ret
              exact ⟨by rw [unhide HF]; rfl, rfl⟩
            · rw [if_neg (by simp)] at hS
              have HF := hide hS
              clear hS
              go_wp2_with fail
              refine (unhide HPT1).mono ?_
              rintro e w9 ⟨rfl, h9⟩
              obtain rfl := h9.symm
              go_wp2_with fail
              refine (unhide HC1).mono ?_
              rintro e w8 ⟨rfl, h8⟩
              obtain rfl := h8.symm
              go_wp2_with fail
              refine (unhide HC2).mono ?_
              rintro e w7 ⟨rfl, h7⟩
              obtain rfl := h7.symm
              go_wp2
              go_roundg (body.length - (en + 1))
              case measure => have := unhide HG; omega
              case rel => exact ⟨en + 1, fu', by omega, rfl, by go_num, by omega, unhide HF, rfl⟩
        have i1 : decide ((i : Int) + 1 < (pn : Int)) = false := decide_eq_false hin1
        by_cases hin2 : (pn : Int) + 1 < (en : Int)
        · have i2 : decide ((pn : Int) + 1 < (en : Int)) = true := decide_eq_true hin2
          by_cases hdd : 20 < depth + 1
          · have f1 : decide (20 < depth + 1) = true := decide_eq_true hdd
            rw [if_pos ⟨Or.inr hin2, hdd⟩] at hS
            have HF := hide hS
            clear hS HC1 HC2
            go_wp2_with fail
            refine (unhide HPT1).mono ?_
            rintro e w9 ⟨rfl, h9⟩
            obtain rfl := h9.symm
            go_wp2
            go_ret
            exact ⟨by rw [unhide HF]; rfl, rfl⟩
          · have f1 : decide (20 < depth + 1) = false := decide_eq_false hdd
            rw [if_neg (fun h => hdd h.2)] at hS
            cases v1
            · rw [if_pos rfl] at hS
              have HF := hide hS
              clear hS HC2
              go_wp2_with fail
              refine (unhide HPT1).mono ?_
              rintro e w9 ⟨rfl, h9⟩
              obtain rfl := h9.symm
              go_wp2_with fail
              refine (unhide HC1).mono ?_
              rintro e w8 ⟨rfl, h8⟩
              obtain rfl := h8.symm
              go_wp2
              go_ret
              exact ⟨by rw [unhide HF]; rfl, rfl⟩
            rw [if_neg (by simp)] at hS
            cases v2
            · rw [if_pos rfl] at hS
              have HF := hide hS
              clear hS
              go_wp2_with fail
              refine (unhide HPT1).mono ?_
              rintro e w9 ⟨rfl, h9⟩
              obtain rfl := h9.symm
              go_wp2_with fail
              refine (unhide HC1).mono ?_
              rintro e w8 ⟨rfl, h8⟩
              obtain rfl := h8.symm
              go_wp2_with fail
              refine (unhide HC2).mono ?_
              rintro e w7 ⟨rfl, h7⟩
              obtain rfl := h7.symm
              go_wp2
              go_ret
              exact ⟨by rw [unhide HF]; rfl, rfl⟩
            · rw [if_neg (by simp)] at hS
              have HF := hide hS
              clear hS
              go_wp2_with fail
              refine (unhide HPT1).mono ?_
              rintro e w9 ⟨rfl, h9⟩
              obtain rfl := h9.symm
              go_wp2_with fail
              refine (unhide HC1).mono ?_
              rintro e w8 ⟨rfl, h8⟩
              obtain rfl := h8.symm
              go_wp2_with fail
              refine (unhide HC2).mono ?_
              rintro e w7 ⟨rfl, h7⟩
              obtain rfl := h7.symm
              go_wp2
              go_roundg (body.length - (en + 1))
              case measure => have := unhide HG; omega
              case rel => exact ⟨en + 1, fu', by omega, rfl, by go_num, by omega, unhide HF, rfl⟩
        · have i2 : decide ((pn : Int) + 1 < (en : Int)) = false := decide_eq_false hin2
          rw [if_neg (by rintro ⟨h | h, _⟩; exact hin1 h; exact hin2 h)] at hS
          cases v1
          · rw [if_pos rfl] at hS
            have HF := hide hS
            clear hS HC2
            go_wp2_with fail
            refine (unhide HPT1).mono ?_
            rintro e w9 ⟨rfl, h9⟩
            obtain rfl := h9.symm
            go_wp2_with fail
            refine (unhide HC1).mono ?_
            rintro e w8 ⟨rfl, h8⟩
            obtain rfl := h8.symm
            go_wp2
            go_ret
            exact ⟨by rw [unhide HF]; rfl, rfl⟩
          rw [if_neg (by simp)] at hS
          cases v2
          · rw [if_pos rfl] at hS
            have HF := hide hS
            clear hS
            go_wp2_with fail
            refine (unhide HPT1).mono ?_
            rintro e w9 ⟨rfl, h9⟩
            obtain rfl := h9.symm
            go_wp2_with fail
            refine (unhide HC1).mono ?_
            rintro e w8 ⟨rfl, h8⟩
            obtain rfl := h8.symm
            go_wp2_with fail
            refine (unhide HC2).mono ?_
            rintro e w7 ⟨rfl, h7⟩
            obtain rfl := h7.symm
            go_wp2
            go_ret
            exact ⟨by rw [unhide HF]; rfl, rfl⟩
          · rw [if_neg (by simp)] at hS
            have HF := hide hS
            clear hS
            go_wp2_with fail
            refine (unhide HPT1).mono ?_
            rintro e w9 ⟨rfl, h9⟩
            obtain rfl := h9.symm
            go_wp2_with fail
            refine (unhide HC1).mono ?_
            rintro e w8 ⟨rfl, h8⟩
            obtain rfl := h8.symm
            go_wp2_with fail
            refine (unhide HC2).mono ?_
            rintro e w7 ⟨rfl, h7⟩
            obtain rfl := h7.symm
            go_wp2
            go_roundg (body.length - (en + 1))
            case measure => have := unhide HG; omega
            case rel => exact ⟨en + 1, fu', by omega, rfl, by go_num, by omega, unhide HF, rfl⟩
      · have e : i = body.length := by omega
        subst e
        have HE := hide ((unhide HRR).trans (unhide HEN fu))
        go_wp2
        go_ret
        exact ⟨by rw [unhide HE]; rfl, rfl⟩

end Go.Proofs.YtmglbkndjnflkaaGreatDoor
