import Derived.Test.YtmglbkndjnflkaaGreatDoorMI1
import Derived.Test.YtmglbkndjnflkaaGreatDoorCode
import Derived.Test.YtmglbkndjnflkaaGreatDoorMP1
namespace Go.Proofs.YtmglbkndjnflkaaGreatDoor
open Go.RowKit
set_option linter.unusedSimpArgs false
set_option linter.unusedVariables false

/-- What an expression's check reads of a plan. -/
structure PR (w : World) (pb mb cb co : Nat) (k : DClass) : Prop where
  p0 : w.cell? ⟨pb, 0, none⟩ = some (.pointer (some ⟨cb, co, none⟩))
  p1 : w.cell? ⟨pb, 1, none⟩ = some (.map (some mb))
  c4 : ∃ b c, w.cell? ⟨cb, co + 4, none⟩ = some (.slice b k.mems.length c)
  ml : k.mems.length ≤ 140737488355328
  map : MapN w mb (varsOf k).length (namesF (varsOf k))
theorem PR.stays {w w' : World} {pb mb cb co : Nat} {k : DClass} (h : PR w pb mb cb co k) (hb : Below w.heap.size w w') : PR w' pb mb cb co k := by
  obtain ⟨b, c, hc⟩ := h.c4
  exact ⟨(hb.cell (p := ⟨pb, 0, none⟩) (World.block_lt_of_cell? w _ h.p0)).trans h.p0, (hb.cell (p := ⟨pb, 1, none⟩) (World.block_lt_of_cell? w _ h.p1)).trans h.p1, ⟨b, c, (hb.cell (p := ⟨cb, co + 4, none⟩) (World.block_lt_of_cell? w _ hc)).trans hc⟩, h.ml, h.map.below hb h.map.lt⟩

def itFB (k : DClass) (t : DItem) : Bool :=
  if t.op = 25 then decide (t.name.size = 0) && decide (0 ≤ t.val) && decide (t.val < (k.mems.length : Int))
  else if 20 < t.op then false else if itB t = false then false
  else if t.op = 3 then decide (0 ≤ placeI (varsOf k) t.name) else true

set_option maxHeartbeats 2000000 in
theorem itemFits_ok (k : DClass) (t : DItem) (pb mb cb co : Nat) (w : World) (h : PR w pb mb cb co k) (hs : Len t.name.size) :
    Calls Tryz.prog 142 #[.pointer (some ⟨pb, 0, none⟩), .agg #[.int .i64 t.op, .int .i64 t.val, .string t.name]] w (Ans (.bool (itFB k t)) w) := by
  have hs' : t.name.size ≤ maxLen := by unfold Len at hs; unfold maxLen; omega
  have hA : Below w.heap.size w (w.alloc (.cells #[.int .i64 t.op, .int .i64 t.val, .string t.name] 88)) := (Below.refl _ _).alloc (Nat.le_refl _) _
  have h' := h.stays hA
  have p0 := h.p0
  have p1 := h.p1
  have hp := World.block_lt_of_cell? w _ h.p0
  obtain ⟨mbb, mcc, c4⟩ := h.c4
  have hcl := World.block_lt_of_cell? w _ c4
  have ml := h.ml
  have HMP := hide h'.map
  have HI := hide (fun w => itemOK_ok t w hs)
  have HE : Hid (itFB k t = if t.op = 25 then decide (t.name.size = 0) && decide (0 ≤ t.val) && decide (t.val < (k.mems.length : Int)) else if 20 < t.op then false else if itB t = false then false else if t.op = 3 then decide (0 ≤ placeI (varsOf k) t.name) else true) := rfl
  have HA := hide hA
  generalize itFB k t = R at *
  generalize itB t = ib at *
  obtain ⟨op, val, nm⟩ := t
  simp only at *
  clear h h' hA
  by_cases h25 : op = 25
  · subst h25
    have HR : Hid (R = (decide (nm.size = 0) && decide (0 ≤ val) && decide (val < (k.mems.length : Int)))) := (unhide HE).trans (if_pos rfl)
    clear HE HI HMP
    by_cases hN : nm.size = 0
    · have g1 := empty_yes nm hN
      have g1b := isEmpty_yes nm hN
      have HR2 : Hid (R = (decide (0 ≤ val) && decide (val < (k.mems.length : Int)))) := (unhide HR).trans (by rw [decide_eq_true hN, Bool.true_and])
      clear HR hN
      by_cases h0 : 0 ≤ val
      · have g2 : decide (0 ≤ val) = true := decide_eq_true h0
        have HR3 : Hid (R = decide (val < (k.mems.length : Int))) := (unhide HR2).trans (by rw [g2, Bool.true_and])
        clear HR2
        by_cases hm : val < (k.mems.length : Int)
        · have g3 : decide (val < (k.mems.length : Int)) = true := decide_eq_true hm
          have HF : Hid (R = true) := (unhide HR3).trans g3
          clear HR3
          go_enter Tryz.func142, Tryz.ntmps142
          go_wp2_with fail
          go_quiet ((fail))
          go_wp2
          go_ret
          exact ⟨ret_bl2x (unhide HF).symm, below_drewN (unhide HA) _⟩
        · have g3 : decide (val < (k.mems.length : Int)) = false := decide_eq_false hm
          have HF : Hid (R = false) := (unhide HR3).trans g3
          clear HR3
          go_enter Tryz.func142, Tryz.ntmps142
          go_wp2_with fail
          go_quiet ((fail))
          go_wp2
          go_ret
          exact ⟨ret_bl2x (unhide HF).symm, below_drewN (unhide HA) _⟩
      · have g2 : decide (0 ≤ val) = false := decide_eq_false h0
        have HF : Hid (R = false) := (unhide HR2).trans (by rw [g2, Bool.false_and])
        clear HR2
        go_enter Tryz.func142, Tryz.ntmps142
        go_wp2_with fail
        go_quiet ((fail))
        go_wp2
        go_ret
        exact ⟨ret_bl2x (unhide HF).symm, below_drewN (unhide HA) _⟩
    · have g1 := empty_no nm hN
      have g1b := isEmpty_no nm hN
      have HF : Hid (R = false) := (unhide HR).trans (by rw [decide_eq_false hN]; rfl)
      clear HR hN
      go_enter Tryz.func142, Tryz.ntmps142
      go_wp2_with fail
      go_quiet ((fail))
      go_wp2
      go_ret
      exact ⟨ret_bl2x (unhide HF).symm, below_drewN (unhide HA) _⟩
  have b25 : (op == 25) = false := by rw [beq_eq_false_iff_ne]; exact h25
  have HR : Hid (R = if 20 < op then false else if ib = false then false else if op = 3 then decide (0 ≤ placeI (varsOf k) nm) else true) := (unhide HE).trans (if_neg h25)
  clear HE h25
  by_cases h20 : 20 < op
  · have g2 : decide (20 < op) = true := decide_eq_true h20
    have HF : Hid (R = false) := (unhide HR).trans (if_pos h20)
    clear HR HMP HI
    go_enter Tryz.func142, Tryz.ntmps142
    go_wp2
    go_ret
    exact ⟨ret_bl2x (unhide HF).symm, unhide HA⟩
  have g2 : decide (20 < op) = false := decide_eq_false h20
  have HR2 : Hid (R = if ib = false then false else if op = 3 then decide (0 ≤ placeI (varsOf k) nm) else true) := (unhide HR).trans (if_neg h20)
  clear HR h20
  cases ib
  · have HF : Hid (R = false) := (unhide HR2).trans (if_pos rfl)
    clear HR2 HMP
    go_enter Tryz.func142, Tryz.ntmps142
    go_wp2_with fail
    refine (unhide HI _).mono ?_
    rintro e w1 ⟨rfl, hb1⟩
    have HB := hide ((unhide HA).trans (hb1.mono (unhide HA).size))
    clear hb1
    go_wp2
    go_ret
    exact ⟨ret_bl2x (unhide HF).symm, unhide HB⟩
  have HR3 : Hid (R = if op = 3 then decide (0 ≤ placeI (varsOf k) nm) else true) := (unhide HR2).trans (if_neg (by decide))
  have HBX := hide (blk_box w #[.int .i64 op, .int .i64 val, .string nm] 88)
  clear HR2
  by_cases h3 : op = 3
  · subst h3
    have HR4 : Hid (R = decide (0 ≤ placeI (varsOf k) nm)) := (unhide HR3).trans (if_pos rfl)
    clear HR3
    by_cases hpl : 0 ≤ placeI (varsOf k) nm
    · have HF : Hid (R = true) := (unhide HR4).trans (decide_eq_true hpl)
      have HNF := hide (namesF_hit _ _ hpl)
      clear HR4
      generalize placeI (varsOf k) nm = pl at *
      go_enter Tryz.func142, Tryz.ntmps142
      go_wp2_with fail
      refine (unhide HI _).mono ?_
      rintro e w1 ⟨rfl, hb1⟩
      have HB := hide ((unhide HA).trans (hb1.mono (unhide HA).size))
      have q1 : w1.cell? ⟨pb, 1, none⟩ = some (.map (some mb)) := by rw [(unhide HB).cell (p := ⟨pb, 1, none⟩) hp]; exact p1
      have k1 : BlkAt w1 w.heap.size 88 #[.int .i64 3, .int .i64 val, .string nm] := (unhide HBX).below hb1 (unhide HBX).lt
      have x0 := k1.cell (i := 0) (v := .int .i64 3) rfl
      have x2 := k1.cell (i := 2) (v := .string nm) rfl
      have hlk : ∀ n, (Instr.lookup 98 (.map (some mb)) (.string nm) true).run Tryz.prog (w1.drewN n) = .ok (.tuple #[.int .i64 pl, .bool true]) (w1.drewN n) := fun n =>
        MapP.hit (w := w1.drewN n) (((unhide HMP).below hb1 (unhide HMP).lt).block rfl) Tryz.underlying9 Tryz.underlying98 (zeroInt _) hs' (unhide HNF)
      clear hb1 k1 HMP HNF
      go_wp2_with fail
      go_quiet ((fail))
      go_wp2
      go_ret
      exact ⟨ret_bl2x (unhide HF).symm, below_drewN (unhide HB) _⟩
    · have HF : Hid (R = false) := (unhide HR4).trans (decide_eq_false hpl)
      have HNF := hide (namesF_miss (varsOf k) nm (by omega))
      clear HR4 hpl
      go_enter Tryz.func142, Tryz.ntmps142
      go_wp2_with fail
      refine (unhide HI _).mono ?_
      rintro e w1 ⟨rfl, hb1⟩
      have HB := hide ((unhide HA).trans (hb1.mono (unhide HA).size))
      have q1 : w1.cell? ⟨pb, 1, none⟩ = some (.map (some mb)) := by rw [(unhide HB).cell (p := ⟨pb, 1, none⟩) hp]; exact p1
      have k1 : BlkAt w1 w.heap.size 88 #[.int .i64 3, .int .i64 val, .string nm] := (unhide HBX).below hb1 (unhide HBX).lt
      have x0 := k1.cell (i := 0) (v := .int .i64 3) rfl
      have x2 := k1.cell (i := 2) (v := .string nm) rfl
      have hlk : ∀ n, (Instr.lookup 98 (.map (some mb)) (.string nm) true).run Tryz.prog (w1.drewN n) = .ok (.tuple #[.int .i64 0, .bool false]) (w1.drewN n) := fun n =>
        MapP.miss (w := w1.drewN n) (((unhide HMP).below hb1 (unhide HMP).lt).block rfl) Tryz.underlying9 Tryz.underlying98 (zeroInt _) hs' (unhide HNF)
      clear hb1 k1 HMP HNF
      go_wp2_with fail
      go_quiet ((fail))
      go_wp2
      go_ret
      exact ⟨ret_bl2x (unhide HF).symm, below_drewN (unhide HB) _⟩
  · have b3 : (op == 3) = false := by rw [beq_eq_false_iff_ne]; exact h3
    have HF : Hid (R = true) := (unhide HR3).trans (if_neg h3)
    clear HR3 h3
    go_enter Tryz.func142, Tryz.ntmps142
    go_wp2_with fail
    refine (unhide HI _).mono ?_
    rintro e w1 ⟨rfl, hb1⟩
    have HB := hide ((unhide HA).trans (hb1.mono (unhide HA).size))
    have k1 : BlkAt w1 w.heap.size 88 #[.int .i64 op, .int .i64 val, .string nm] := (unhide HBX).below hb1 (unhide HBX).lt
    have x0 := k1.cell (i := 0) (v := .int .i64 op) rfl
    clear hb1 k1 HMP
    go_wp2
    go_ret
    exact ⟨ret_bl2x (unhide HF).symm, unhide HB⟩

end Go.Proofs.YtmglbkndjnflkaaGreatDoor
