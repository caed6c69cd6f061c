import Derived.Test.YtmglbkndjnflkaaGreatDoorPS1
import Derived.Test.YtmglbkndjnflkaaGreatDoorShelf
import Derived.Test.YtmglbkndjnflkaaGreatDoorFill
import Derived.Deep.MidRow
import Derived.Test.YtmglbkndjnflkaaGreatDoorPS4
import Derived.Test.YtmglbkndjnflkaaGreatDoorStepAll
namespace Go.Proofs.YtmglbkndjnflkaaGreatDoor
open Go.RowKit
open Go.Shelf
set_option linter.unusedSimpArgs false
set_option linter.unusedVariables false

theorem truthText_ok (v : Int) (w : World) (h : v = 0 ∨ v = 1) :
    Calls Tryz.prog 105 #[.int .i64 v] w fun e w' => e = .returned (.string (flT v)) ∧ w' = w := by
  rcases h with rfl | rfl
  all_goals
    go_enter Tryz.func105, Tryz.ntmps105
    go_wp2
    go_ret
    exact ⟨rfl, rfl⟩

def opTab : List (ByteArray × Int × Int) := [(⟨#[111, 114]⟩, 1, 18), (⟨#[120, 111, 114]⟩, 1, 19), (⟨#[97, 110, 100]⟩, 2, 17), (⟨#[61]⟩, 3, 11), (⟨#[60, 62]⟩, 3, 12), (⟨#[60]⟩, 3, 13), (⟨#[60, 61]⟩, 3, 14), (⟨#[62]⟩, 3, 15), (⟨#[62, 61]⟩, 3, 16), (⟨#[43]⟩, 4, 6), (⟨#[45]⟩, 4, 7), (⟨#[42]⟩, 5, 8), (⟨#[47]⟩, 5, 9), (⟨#[109, 111, 100]⟩, 5, 10)]
def opCs (x : ByteArray × Int × Int) : List Value := [.string x.1, .int .i64 x.2.1, .int .i64 x.2.2]
def opCells : List Value := opTab.flatMap opCs
def opAt (k : Nat) : ByteArray × Int × Int := opTab.getD k (⟨#[]⟩, 0, 0)
theorem u158 : Tryz.prog.underlying 186 = some (.array 14 185) := by kernel_rfl
theorem i158 : (Tryz.prog.info? 186).map (·.size) = some opCells.length := by kernel_rfl
theorem part_op0 (w : World) : (Instr.index 186 (.agg opCells.toArray) (.int .i64 ((0 : Nat) : Int))).run Tryz.prog w = .ok (.agg #[.string (opAt 0).1, .int .i64 (opAt 0).2.1, .int .i64 (opAt 0).2.2]) w := by kernel_rfl
theorem part_op1 (w : World) : (Instr.index 186 (.agg opCells.toArray) (.int .i64 ((1 : Nat) : Int))).run Tryz.prog w = .ok (.agg #[.string (opAt 1).1, .int .i64 (opAt 1).2.1, .int .i64 (opAt 1).2.2]) w := by kernel_rfl
theorem part_op2 (w : World) : (Instr.index 186 (.agg opCells.toArray) (.int .i64 ((2 : Nat) : Int))).run Tryz.prog w = .ok (.agg #[.string (opAt 2).1, .int .i64 (opAt 2).2.1, .int .i64 (opAt 2).2.2]) w := by kernel_rfl
theorem part_op3 (w : World) : (Instr.index 186 (.agg opCells.toArray) (.int .i64 ((3 : Nat) : Int))).run Tryz.prog w = .ok (.agg #[.string (opAt 3).1, .int .i64 (opAt 3).2.1, .int .i64 (opAt 3).2.2]) w := by kernel_rfl
theorem part_op4 (w : World) : (Instr.index 186 (.agg opCells.toArray) (.int .i64 ((4 : Nat) : Int))).run Tryz.prog w = .ok (.agg #[.string (opAt 4).1, .int .i64 (opAt 4).2.1, .int .i64 (opAt 4).2.2]) w := by kernel_rfl
theorem part_op5 (w : World) : (Instr.index 186 (.agg opCells.toArray) (.int .i64 ((5 : Nat) : Int))).run Tryz.prog w = .ok (.agg #[.string (opAt 5).1, .int .i64 (opAt 5).2.1, .int .i64 (opAt 5).2.2]) w := by kernel_rfl
theorem part_op6 (w : World) : (Instr.index 186 (.agg opCells.toArray) (.int .i64 ((6 : Nat) : Int))).run Tryz.prog w = .ok (.agg #[.string (opAt 6).1, .int .i64 (opAt 6).2.1, .int .i64 (opAt 6).2.2]) w := by kernel_rfl
theorem part_op7 (w : World) : (Instr.index 186 (.agg opCells.toArray) (.int .i64 ((7 : Nat) : Int))).run Tryz.prog w = .ok (.agg #[.string (opAt 7).1, .int .i64 (opAt 7).2.1, .int .i64 (opAt 7).2.2]) w := by kernel_rfl
theorem part_op8 (w : World) : (Instr.index 186 (.agg opCells.toArray) (.int .i64 ((8 : Nat) : Int))).run Tryz.prog w = .ok (.agg #[.string (opAt 8).1, .int .i64 (opAt 8).2.1, .int .i64 (opAt 8).2.2]) w := by kernel_rfl
theorem part_op9 (w : World) : (Instr.index 186 (.agg opCells.toArray) (.int .i64 ((9 : Nat) : Int))).run Tryz.prog w = .ok (.agg #[.string (opAt 9).1, .int .i64 (opAt 9).2.1, .int .i64 (opAt 9).2.2]) w := by kernel_rfl
theorem part_op10 (w : World) : (Instr.index 186 (.agg opCells.toArray) (.int .i64 ((10 : Nat) : Int))).run Tryz.prog w = .ok (.agg #[.string (opAt 10).1, .int .i64 (opAt 10).2.1, .int .i64 (opAt 10).2.2]) w := by kernel_rfl
theorem part_op11 (w : World) : (Instr.index 186 (.agg opCells.toArray) (.int .i64 ((11 : Nat) : Int))).run Tryz.prog w = .ok (.agg #[.string (opAt 11).1, .int .i64 (opAt 11).2.1, .int .i64 (opAt 11).2.2]) w := by kernel_rfl
theorem part_op12 (w : World) : (Instr.index 186 (.agg opCells.toArray) (.int .i64 ((12 : Nat) : Int))).run Tryz.prog w = .ok (.agg #[.string (opAt 12).1, .int .i64 (opAt 12).2.1, .int .i64 (opAt 12).2.2]) w := by kernel_rfl
theorem part_op13 (w : World) : (Instr.index 186 (.agg opCells.toArray) (.int .i64 ((13 : Nat) : Int))).run Tryz.prog w = .ok (.agg #[.string (opAt 13).1, .int .i64 (opAt 13).2.1, .int .i64 (opAt 13).2.2]) w := by kernel_rfl
theorem part_op : ∀ (k : Nat) (_ : k < 14) (w : World), (Instr.index 186 (.agg opCells.toArray) (.int .i64 k)).run Tryz.prog w = .ok (.agg #[.string (opAt k).1, .int .i64 (opAt k).2.1, .int .i64 (opAt k).2.2]) w
  | 0, _, w => part_op0 w
  | 1, _, w => part_op1 w
  | 2, _, w => part_op2 w
  | 3, _, w => part_op3 w
  | 4, _, w => part_op4 w
  | 5, _, w => part_op5 w
  | 6, _, w => part_op6 w
  | 7, _, w => part_op7 w
  | 8, _, w => part_op8 w
  | 9, _, w => part_op9 w
  | 10, _, w => part_op10 w
  | 11, _, w => part_op11 w
  | 12, _, w => part_op12 w
  | 13, _, w => part_op13 w
  | k + 14, h, _ => absurd h (by omega)
theorem sgT_at : ∀ k, k < 14 → sgT (opAt k).2.2 = (opAt k).1 := by decide
theorem sgT_no (op : Int) (h : ∀ j, j < 14 → (opAt j).2.2 ≠ op) : sgT op = ⟨#[]⟩ := by
  have h0 : ¬ op = 18 := fun e => h 0 (by decide) e.symm
  have h1 : ¬ op = 19 := fun e => h 1 (by decide) e.symm
  have h2 : ¬ op = 17 := fun e => h 2 (by decide) e.symm
  have h3 : ¬ op = 11 := fun e => h 3 (by decide) e.symm
  have h4 : ¬ op = 12 := fun e => h 4 (by decide) e.symm
  have h5 : ¬ op = 13 := fun e => h 5 (by decide) e.symm
  have h6 : ¬ op = 14 := fun e => h 6 (by decide) e.symm
  have h7 : ¬ op = 15 := fun e => h 7 (by decide) e.symm
  have h8 : ¬ op = 16 := fun e => h 8 (by decide) e.symm
  have h9 : ¬ op = 6 := fun e => h 9 (by decide) e.symm
  have h10 : ¬ op = 7 := fun e => h 10 (by decide) e.symm
  have h11 : ¬ op = 8 := fun e => h 11 (by decide) e.symm
  have h12 : ¬ op = 9 := fun e => h 12 (by decide) e.symm
  have h13 : ¬ op = 10 := fun e => h 13 (by decide) e.symm
  simp only [sgT, if_neg h0, if_neg h1, if_neg h2, if_neg h3, if_neg h4, if_neg h5, if_neg h6, if_neg h7, if_neg h8, if_neg h9, if_neg h10, if_neg h11, if_neg h12, if_neg h13]

theorem wpList_index {P : Program} {ops : Array Oper} {rest : List Oper} {op : Oper} {a : Act} {w : World} {Q : Exit → Act → World → Prop} (hgd : op.guard = none) (ty : TypeId) (x i : Operand) (ho : op.op = .index ty x i)
    (vx vi v : Value) (hx : a.eval x = vx) (hi : a.eval i = vi) (hr : (Instr.index ty vx vi).run P w = .ok v w) (h : wpList P ops Q rest (a.put op.dst v) w) : wpList P ops Q (op :: rest) a w :=
  wpList_plain hgd fun _ hK => by
    unfold Oper.wp execOp
    simp only [ho, hx, hi, Sem.run_bind, hr, Result.andThen_ok, Sem.run_pure]
    exact hK _ _ h

set_option maxHeartbeats 1000000 in
theorem signText_ok (op : Int) (w : World) (h : w.rangeAt 1 0 opCells) :
    Calls Tryz.prog 106 #[.int .i64 op] w (Ans (.string (sgT op)) w) := by
  have HH := hide h
  have HP := hide part_op
  clear h
  go_enter Tryz.func106, Tryz.ntmps106
  go_wp2_with (refine wpList_load_mid rfl 186 (.global 1) rfl 1 0 rfl opCells (.array 14 185) (unhide HH) u158 rfl i158 ?_)
  generalize opCells.toArray = OC at *
  go_loopg [6] 14 (fun g i wr => ∃ (k : Nat), k ≤ 14 ∧ g = 14 - k ∧ i = .int .i64 k ∧ (∀ j, j < k → (opAt j).2.2 ≠ op) ∧ Below w.heap.size w wr)
  case atStart => exact ⟨0, Nat.zero_le _, rfl, rfl, fun j hj => absurd hj (Nat.not_lt_zero _), Below.refl _ _⟩
  case round =>
    obtain ⟨k, hk, hg, rfl, hno, hbl⟩ := hrel
    have HG := hide hg
    have HN := hide hno
    clear hg hno
    by_cases hlt : k < 14
    · have HI := hide (unhide HP k hlt)
      have HS := hide (sgT_at k hlt)
      have HE : Hid (opAt k = opAt k) := rfl
      by_cases he : (opAt k).2.2 = op
      · subst he
        generalize opAt k = p at *
        obtain ⟨s, l, o⟩ := p
        simp only at *
        go_wp2_with (refine wpList_index rfl 186 (.tmp 5) (.tmp 6) rfl (.agg OC) (.int .i64 k) _ rfl rfl (unhide HI _) ?_)
        go_ret
        exact ⟨ret_str (unhide HS).symm, hbl.alloc hbl.size _⟩
      · have HN2 : Hid (∀ j, j < k + 1 → (opAt j).2.2 ≠ op) := fun j hj => by
          by_cases hjk : j = k
          · subst hjk; exact he
          · exact unhide HN j (by omega)
        generalize hq : opAt k = p at *
        obtain ⟨s, l, o⟩ := p
        simp only at *
        have HQ := hide hq
        clear hq
        go_wp2_with (refine wpList_index rfl 186 (.tmp 5) (.tmp 6) rfl (.agg OC) (.int .i64 k) _ rfl rfl (unhide HI _) ?_)
        go_roundg (14 - (k + 1))
        case measure => have := unhide HG; omega
        case rel => exact ⟨k + 1, by omega, rfl, by go_num, unhide HN2, hbl.alloc hbl.size _⟩
    · have e : k = 14 := by omega
      subst e
      go_wp2
      go_ret
      exact ⟨ret_str (sgT_no op (unhide HN)).symm, hbl⟩

/-- The two tables that the printing reads. -/
structure Env (w : World) : Prop where
  ops : w.rangeAt 1 0 opCells
  tab : Lib.TabIs Tryz.prog w "internal/strconv.uint64pow10" .u64 Lib.pow10Tab
  three : 3 ≤ w.heap.size
theorem gPow : Tryz.prog.globalNamed "internal/strconv.uint64pow10" = some 0 := by kernel_rfl
theorem Env.below {B : Nat} {w w' : World} (h : Env w) (hb : Below B w w') (hB : 3 ≤ B) : Env w' := by
  refine ⟨fun j v hv => ?_, ?_, Nat.le_trans h.three hb.size⟩
  · rw [hb.cell (p := ⟨1, _, none⟩) (show 1 < B by omega)]
    exact h.ops j v hv
  · have := h.tab
    unfold Lib.TabIs World.var? at *
    rw [gPow] at *
    simp only [Option.bind_some] at *
    rw [hb.block 0 (by omega)]
    exact this

theorem grow_bl (w : World) (k : Nat) (os : Array Obj) : Below w.heap.size w (Sort.grow (w.drewN k) os) := by
  refine ⟨rfl, rfl, rfl, ?_, fun i hi => ?_⟩
  · show w.heap.size ≤ (w.heap ++ os).size
    rw [Array.size_append]
    omega
  · show (w.heap ++ os)[i]? = w.heap[i]?
    rw [Array.getElem?_append_left hi]

theorem typeText_ok (t : Int) (w : World) (h : t = 1 ∨ t = 2) : Calls Tryz.prog 28 #[.int .i64 t] w fun e w' => e = .returned (.string (tyT t)) ∧ w' = w := by
  rcases h with rfl | rfl
  all_goals
    go_enter Tryz.func28, Tryz.ntmps28
    go_wp2
    go_ret
    exact ⟨rfl, rfl⟩
theorem itoa_ok (n : Int) (h : N32 n) (w : World) (hE : Env w) : Calls Tryz.prog 29 #[.int .i64 n] w (Ans (.string (dcT n)) w) := by
  unfold N32 at h
  refine (Tryz.strconv_Itoa n (by omega) (by omega) w hE.tab).mono ?_
  rintro e w1 ⟨rfl, k1, os1, rfl⟩
  exact ⟨rfl, grow_bl _ k1 os1⟩

end Go.Proofs.YtmglbkndjnflkaaGreatDoor
namespace Go.Proofs.YtmglbkndjnflkaaGreatDoor
open Go.RowKit
open Go.Shelf
set_option linter.unusedSimpArgs false
set_option linter.unusedVariables false

set_option maxHeartbeats 4000000 in
theorem itemPart_ok (t : DItem) (w : World) (hE : Env w) (h : PtOK t) (hn : t.name.size ≤ 1048576) :
    Calls Tryz.prog 77 #[.agg #[.int .i64 t.op, .int .i64 t.val, .string t.name]] w (Ans (.string (partT t)) w) := by
  have hA : Below w.heap.size w (w.alloc (.cells #[.int .i64 t.op, .int .i64 t.val, .string t.name] 88)) := (Below.refl _ _).alloc (Nat.le_refl _) _
  have hnum := h.num
  have htru := h.tru
  have HA := hide hA
  have HE := hide (hE.below hA hE.three)
  clear h hA hE
  obtain ⟨op, val, name⟩ := t
  simp only at *
  have HNUM := hide hnum
  have HTRU := hide htru
  clear hnum htru
  by_cases h1 : op = 1
  · have HP : Hid (partT ⟨op, val, name⟩ = dcT val) := by
      refine hide ?_
      unfold partT
      simp [h1]
    generalize partT ⟨op, val, name⟩ = pt at *
    subst h1
    have hv := unhide HNUM (by omega)
    have HC := hide (itoa_ok val hv (w.alloc (.cells #[.int .i64 1, .int .i64 val, .string name] 88)) (unhide HE))
    have hz := dcT_sz val hv
    generalize dcT val = dv at *
    clear hv
    go_enter Tryz.func77, Tryz.ntmps77
    go_wp2_with fail
    refine (unhide HC).mono ?_
    rintro e w1 ⟨rfl, hb1⟩
    have HB := hide ((unhide HA).trans (hb1.mono (unhide HA).size))
    clear hb1
    go_wp2
    go_ret
    exact ⟨ret_str (unhide HP).symm, unhide HB⟩
  by_cases h2 : op = 2
  · have HP : Hid (partT ⟨op, val, name⟩ = flT val) := by
      refine hide ?_
      unfold partT
      simp [h2]
    generalize partT ⟨op, val, name⟩ = pt at *
    subst h2
    have HC := hide (truthText_ok val (w.alloc (.cells #[.int .i64 2, .int .i64 val, .string name] 88)) (unhide HTRU rfl))
    generalize flT val = dv at *
    go_enter Tryz.func77, Tryz.ntmps77
    go_wp2_with fail
    refine (unhide HC).mono ?_
    rintro e w1 ⟨rfl, rfl⟩
    go_wp2
    go_ret
    exact ⟨ret_str (unhide HP).symm, unhide HA⟩
  by_cases h3 : op = 3
  · have HP : Hid (partT ⟨op, val, name⟩ = Wdot ++ name) := by
      refine hide ?_
      unfold partT
      simp [h3]
    generalize partT ⟨op, val, name⟩ = pt at *
    subst h3
    go_enter Tryz.func77, Tryz.ntmps77
    go_wp2
    go_ret
    exact ⟨ret_str (unhide HP).symm, unhide HA⟩
  by_cases h25 : op = 25
  · have HP : Hid (partT ⟨op, val, name⟩ = Wat ++ dcT val) := by
      refine hide ?_
      unfold partT
      simp [h25]
    generalize partT ⟨op, val, name⟩ = pt at *
    subst h25
    have hv := unhide HNUM (by omega)
    have HC := hide (itoa_ok val hv (w.alloc (.cells #[.int .i64 25, .int .i64 val, .string name] 88)) (unhide HE))
    have hz := dcT_sz val hv
    generalize dcT val = dv at *
    clear hv
    go_enter Tryz.func77, Tryz.ntmps77
    go_wp2_with fail
    refine (unhide HC).mono ?_
    rintro e w1 ⟨rfl, hb1⟩
    have HB := hide ((unhide HA).trans (hb1.mono (unhide HA).size))
    clear hb1
    go_wp2
    go_ret
    exact ⟨ret_str (unhide HP).symm, unhide HB⟩
  by_cases h4 : op = 4
  · have HP : Hid (partT ⟨op, val, name⟩ = Wneg) := by
      refine hide ?_
      unfold partT
      simp [h4]
    generalize partT ⟨op, val, name⟩ = pt at *
    subst h4
    go_enter Tryz.func77, Tryz.ntmps77
    go_wp2
    go_ret
    exact ⟨ret_str (unhide HP).symm, unhide HA⟩
  by_cases h5 : op = 5
  · have HP : Hid (partT ⟨op, val, name⟩ = Wnot) := by
      refine hide ?_
      unfold partT
      simp [h5]
    generalize partT ⟨op, val, name⟩ = pt at *
    subst h5
    go_enter Tryz.func77, Tryz.ntmps77
    go_wp2
    go_ret
    exact ⟨ret_str (unhide HP).symm, unhide HA⟩
  by_cases h20 : op = 20
  · have HP : Hid (partT ⟨op, val, name⟩ = Wq) := by
      refine hide ?_
      unfold partT
      simp [h20]
    generalize partT ⟨op, val, name⟩ = pt at *
    subst h20
    go_enter Tryz.func77, Tryz.ntmps77
    go_wp2
    go_ret
    exact ⟨ret_str (unhide HP).symm, unhide HA⟩
  have HP : Hid (partT ⟨op, val, name⟩ = sgT op) := by
    refine hide ?_
    unfold partT
    simp [h1, h2, h3, h25, h4, h5, h20]
  have HC := hide (signText_ok op (w.alloc (.cells #[.int .i64 op, .int .i64 val, .string name] 88)) (unhide HE).ops)
  generalize partT ⟨op, val, name⟩ = pt at *
  generalize sgT op = sg at *
  go_enter Tryz.func77, Tryz.ntmps77
  go_wp2_with fail
  refine (unhide HC).mono ?_
  rintro e w1 ⟨rfl, hb1⟩
  have HB := hide ((unhide HA).trans (hb1.mono (unhide HA).size))
  clear hb1
  go_wp2
  go_ret
  exact ⟨ret_str (unhide HP).symm, unhide HB⟩

theorem info_cp : (Tryz.prog.info? 9).map (fun i => (i.zero, i.size, i.bytes)) = some (some (.string ByteArray.empty), 1, 16) := by kernel_rfl
/-- Parts in new memory. -/
def PtsPost (ps : List ByteArray) (w : World) (e : Ending) (w' : World) : Prop := ∃ v, e = .returned v ∧ SlAt 1 16 RStr 0 w' v ps ∧ Below w.heap.size w w'

set_option maxHeartbeats 1000000 in
theorem codeParts_ok (c : List DItem) (v : Value) (w : World) (hE : Env w) (hv : SlAt 3 32 RItem 0 w v c) (hc : CdOK c) :
    Calls Tryz.prog 54 #[v] w (PtsPost (codeP c) w) := by
  have HCO := hide hc
  have hl := hc.len
  have HE := hide hE
  obtain ⟨a, cap, rfl, _, _, hx⟩ := hv
  have HX := hide hx
  have HPL : Hid ((codeP c).length = c.length) := codeP_len c
  have HPS := hide (codeP_small hc)
  have HPG : Hid (∀ k (h : k < c.length), ∃ h2 : k < (codeP c).length, (codeP c)[k] = partT c[k]) := fun k h => ⟨by rw [codeP_len]; exact h, by simp [codeP]⟩
  have hmk := make_rows (P := Tryz.prog) 35 9 _ _ _ Tryz.underlying35 info_cp c.length (by omega) (by omega)
  clear hx hc hE
  generalize codeP c = ps at *
  go_enter Tryz.func54, Tryz.ntmps54
  go_wp2
  go_loopg [11] c.length (fun g i wr => ∃ (k : Nat), k ≤ c.length ∧ g = c.length - k ∧ i = .int .i64 k ∧ Hid (Below w.heap.size w wr) ∧ Hid (RowAt wr w.heap.size c.length) ∧ Hid (Filled 1 RStr (w.heap.size + 1) wr w.heap.size ps k))
  case atStart => exact ⟨0, Nat.zero_le _, by omega, rfl, (Below.refl _ _).alloc (Nat.le_refl _) _, RowAt.made _ _ _ _, fill_none _ _ _ _ _ _⟩
  case round =>
    obtain ⟨k, hk, hg, rfl, HBL, HROW, HF⟩ := hrel
    clear hmk
    have HG := hide hg
    clear hg
    by_cases hlt : k < c.length
    · obtain ⟨b, o, cs, rfl, _, hb, hcs, hc, hR⟩ := unhide HX k hlt
      have hc : ∀ j (hj : j < cs.length), wr.cell? ⟨b, o + k * 3 + j, none⟩ = some cs[j] := fun j hj => by rw [(unhide HBL).cell (p := ⟨b, _, none⟩) hb]; exact hc j hj
      obtain ⟨rfl, hsn, ho, hv⟩ := hR
      have c0 := hc 0 (by simp)
      have c1 := hc 1 (by simp)
      have c2 := hc 2 (by simp)
      simp only [Nat.mul_one, Nat.add_zero, List.getElem_cons_zero, List.getElem_cons_succ] at c0 c1 c2
      have hltI : (k : Int) < (c.length : Int) := by omega
      have hA : Below wr.heap.size wr (wr.alloc (.cells #[.int .i64 c[k].op, .int .i64 c[k].val, .string c[k].name] 88)) := (Below.refl _ _).alloc (Nat.le_refl _) _
      have HC := hide (itemPart_ok c[k] (wr.alloc (.cells #[.int .i64 c[k].op, .int .i64 c[k].val, .string c[k].name] 88)) (((unhide HE).below (unhide HBL) (unhide HE).three).below hA (Nat.le_trans (unhide HE).three (unhide HBL).size)) ((unhide HCO).pt _ (List.getElem_mem hlt)) ((unhide HCO).nm _ (List.getElem_mem hlt)))
      obtain ⟨hk2, hpk⟩ := unhide HPG k hlt
      have hpz := unhide HPS ps[k] (List.getElem_mem hk2)
      rw [hpk] at hpz
      have HA := hide hA
      have HPK := hide hpk
      clear hc hcs hsn ho hv hA hpk
      generalize partT c[k] = pt at *
      generalize c[k] = it at *
      obtain ⟨op, val, name⟩ := it
      simp only at *
      go_wp2_with fail
      refine (unhide HC).mono ?_
      rintro e w1 ⟨rfl, hb1⟩
      have hQ : Below wr.heap.size wr w1 := (unhide HA).trans (hb1.mono (unhide HA).size)
      obtain ⟨x0, d0⟩ := ((unhide HROW).below hQ).cell (i := k) hlt
      have f0 := ((unhide HROW).below hQ).frozen k
      have step := fill_step RStr_kept RStr_lowers hk2 (Nat.le_refl _) (unhide HBL) (by rw [unhide HPL, Nat.mul_one]; exact unhide HROW) (unhide HF) hQ rfl (cs := [.string pt]) (by rw [unhide HPK]; exact ⟨rfl, by unfold Len; omega⟩)
      rw [unhide HPL] at step
      simp only [Nat.mul_one] at step
      have ST := hide step
      clear step hb1 hQ
      go_wp2
      go_roundg (c.length - (k + 1))
      case measure => have := unhide HG; omega
      case rel => exact ⟨k + 1, by omega, rfl, by go_num, unhide ST⟩
    · have e : k = c.length := by omega
      have hb0 := (unhide HROW).lt
      have D : Hid (SlAt 1 16 RStr 0 wr (.slice (some ⟨w.heap.size, 0, none⟩) c.length c.length) ps) := by
        have h8 := fill_done (byt := 16) RStr_lowers hb0 (by rw [unhide HPL]; unfold Len; omega) (by rw [unhide HPL]; unfold Len; omega) (by have := unhide HF; rw [e, ← unhide HPL] at this; exact this)
        rw [unhide HPL] at h8
        exact h8.lower RStr_lowers (Nat.zero_le _)
      clear e hb0
      go_wp2
      go_ret
      exact ⟨_, rfl, unhide D, unhide HBL⟩

end Go.Proofs.YtmglbkndjnflkaaGreatDoor
namespace Go.Proofs.YtmglbkndjnflkaaGreatDoor
open Go.RowKit
open Go.Shelf
set_option linter.unusedSimpArgs false
set_option linter.unusedVariables false

theorem RStr_fP : ∀ (w : World) (cs : List Value) (x : ByteArray), RStr 0 w cs x → cs = elStr.f x := fun _ _ _ h => h.1
theorem own_made (w : World) (base : Nat) (xs : List ByteArray) (cs : Array Value) (n : Nat) (hb : base ≤ w.heap.size) (hcs : cs = (xs.map Value.string).toArray) (hn : n = xs.length) (hm : xs.length ≤ 1000000) : OwnV elStr (w.alloc (.cells cs 9)) base (.slice (some ⟨w.heap.size, 0, none⟩) n n) xs := by
  subst hcs hn
  have hfl : xs.flatMap elStr.f = xs.map Value.string := by
    clear hm
    induction xs with
    | nil => rfl
    | cons x xs ih => rw [List.flatMap_cons, ih]; rfl
  refine ⟨?_, Or.inr ⟨_, _, _, rfl, hb, Deep.blk_alloc_new _ _, Nat.le_refl _, by unfold maxLen; omega, ?_, ?_⟩⟩
  · rw [hfl, List.length_map]; show _ = _ * 1; omega
  · rw [List.size_toArray, List.length_map]; show _ = _ * 1; omega
  · rw [hfl]
    show ((xs.map Value.string)).take (xs.length * 1) = _
    rw [Nat.mul_one, List.take_of_length_le (by rw [List.length_map]; exact Nat.le_refl _)]
theorem ps_at {w : World} {base : Nat} {v : Value} {ps : List ByteArray} (h : OwnV elStr w base v ps) (hs : lsz ps ≤ 200000000) : SlAt 1 16 RStr 0 w v ps :=
  h.at (R := RStr) (fun x hx => ⟨rfl, by have := lsz_mem ps x hx; unfold Len; omega⟩) (by have := lsz_len ps; show _ * 16 ≤ _; omega)
/-- Parts in a row of one's own. -/
def OsPost (ps : List ByteArray) (w : World) (e : Ending) (w' : World) : Prop := ∃ v base, e = .returned v ∧ OwnV elStr w' base v ps ∧ Below w.heap.size w w'
theorem lsz_pre (a b : List ByteArray) (n : Nat) (h : lsz (a ++ b) ≤ n) : lsz a ≤ n := by rw [lsz_app] at h; omega

theorem args_pre (P0 : List ByteArray) (ags : List (List DItem)) (q : Nat) (hq : q ≤ ags.length) : lsz (P0 ++ argsTo ags q) ≤ lsz (P0 ++ argsTo ags ags.length) := by
  obtain ⟨d, hd⟩ := Nat.exists_eq_add_of_le hq
  have : ∀ d, lsz (P0 ++ argsTo ags q) ≤ lsz (P0 ++ argsTo ags (q + d)) := by
    intro d
    induction d with
    | zero => exact Nat.le_refl _
    | succ d ih =>
      rw [show q + (d + 1) = q + d + 1 from by omega, argsTo]
      simp only [lsz_app] at ih ⊢
      omega
  rw [hd]
  exact this d

set_option maxRecDepth 20000 in
set_option maxHeartbeats 8000000 in
theorem callParts_ok (s : DStm) (so sc sa : Value) (w : World) (hE : Env w) (h : LnOK s) (h1 : SlAt 1 16 RStr 0 w so s.outs) (h2 : SlAt 3 32 RItem 0 w sc s.code) (h3 : SlAt 1 24 RItems 0 w sa s.args) (hk3 : s.kind = 3) (hw : lsz (stmP s) ≤ 200000000) :
    Calls Tryz.prog 55 #[.agg #[.int .i64 s.kind, .string s.name, .int .i64 s.at_, so, sc, sa]] w (OsPost (stmP s) w) := by
  obtain ⟨kd, nm, at0, outs, code, args⟩ := s
  simp only at h1 h2 h3
  obtain ⟨oa, oc, rfl⟩ := h1.shape
  obtain ⟨ca, cc, rfl⟩ := h2.shape
  obtain ⟨aa, ac, rfl⟩ := h3.shape
  have hat := h.st.at_
  have hkd := h.st.kind
  have hol := h.outs
  have hcd := h.code
  have hal := h.args
  simp only at hat hkd hol hcd hal
  have HB0 : Hid (Below (w.heap.size + 1) (w.alloc (.cells #[.int .i64 kd, .string nm, .int .i64 at0, .slice oa outs.length oc, .slice ca code.length cc, .slice aa args.length ac] 47)) (w.alloc (.cells #[.int .i64 kd, .string nm, .int .i64 at0, .slice oa outs.length oc, .slice ca code.length cc, .slice aa args.length ac] 47))) := Below.refl _ _
  have HB0d : Hid (Below (w.heap.size + 1) (w.alloc (.cells #[.int .i64 kd, .string nm, .int .i64 at0, .slice oa outs.length oc, .slice ca code.length cc, .slice aa args.length ac] 47)) (w.alloc (.cells #[.int .i64 kd, .string nm, .int .i64 at0, .slice oa outs.length oc, .slice ca code.length cc, .slice aa args.length ac] 47)).drew) := (unhide HB0).drew
  have HOUT : Hid (∀ w1, Below (w.heap.size + 1) (w.alloc (.cells #[.int .i64 kd, .string nm, .int .i64 at0, .slice oa outs.length oc, .slice ca code.length cc, .slice aa args.length ac] 47)) w1 → Below w.heap.size w w1) := fun w1 h => ((Below.refl w.heap.size w).alloc (Nat.le_refl _) _).trans (h.mono (Nat.le_succ _))
  have HCEL : Hid (∀ w1, Below (w.heap.size + 1) (w.alloc (.cells #[.int .i64 kd, .string nm, .int .i64 at0, .slice oa outs.length oc, .slice ca code.length cc, .slice aa args.length ac] 47)) w1 → w1.cell? ⟨w.heap.size, 1, none⟩ = some (.string nm) ∧ w1.cell? ⟨w.heap.size, 2, none⟩ = some (.int .i64 at0) ∧ w1.cell? ⟨w.heap.size, 3, none⟩ = some (.slice oa outs.length oc) ∧ w1.cell? ⟨w.heap.size, 4, none⟩ = some (.slice ca code.length cc) ∧ w1.cell? ⟨w.heap.size, 5, none⟩ = some (.slice aa args.length ac)) := fun w1 H9 => ⟨(box_cell (B := 0) H9 1).trans rfl, (box_cell (B := 0) H9 2).trans rfl, (box_cell (B := 0) H9 3).trans rfl, (box_cell (B := 0) H9 4).trans rfl, (box_cell (B := 0) H9 5).trans rfl⟩
  have HEN : Hid (∀ w1, Below (w.heap.size + 1) (w.alloc (.cells #[.int .i64 kd, .string nm, .int .i64 at0, .slice oa outs.length oc, .slice ca code.length cc, .slice aa args.length ac] 47)) w1 → Env w1) := fun w1 H9 => hE.below (unhide HOUT _ H9) hE.three
  have HIT : Hid (∀ w', Hid (Below (w.heap.size + 1) (w.alloc (.cells #[.int .i64 kd, .string nm, .int .i64 at0, .slice oa outs.length oc, .slice ca code.length cc, .slice aa args.length ac] 47)) w') → Calls Tryz.prog 29 #[.int .i64 at0] w' fun e w1 => e = .returned (.string (dcT at0)) ∧ Hid (Below (w.heap.size + 1) (w.alloc (.cells #[.int .i64 kd, .string nm, .int .i64 at0, .slice oa outs.length oc, .slice ca code.length cc, .slice aa args.length ac] 47)) w1) ∧ Hid (Below w'.heap.size w' w1) ∧ w1.cell? ⟨w.heap.size, 1, none⟩ = some (.string nm) ∧ w1.cell? ⟨w.heap.size, 2, none⟩ = some (.int .i64 at0) ∧ w1.cell? ⟨w.heap.size, 3, none⟩ = some (.slice oa outs.length oc) ∧ w1.cell? ⟨w.heap.size, 4, none⟩ = some (.slice ca code.length cc) ∧ w1.cell? ⟨w.heap.size, 5, none⟩ = some (.slice aa args.length ac)) := fun w' hw => (itoa_ok at0 hat w' (unhide HEN _ (unhide hw))).mono (fun e w1 ⟨he, hb⟩ => by
    have H9 := box_thruP (unhide hw) hb
    exact ⟨he, H9, hb, unhide HCEL _ H9⟩)
  have HCP : Hid (∀ w', Hid (Below (w.heap.size + 1) (w.alloc (.cells #[.int .i64 kd, .string nm, .int .i64 at0, .slice oa outs.length oc, .slice ca code.length cc, .slice aa args.length ac] 47)) w') → Calls Tryz.prog 54 #[.slice ca code.length cc] w' fun e w1 => ∃ va vc, e = .returned (.slice va (codeP code).length vc) ∧ Hid (SlAt 1 16 RStr 0 w1 (.slice va (codeP code).length vc) (codeP code)) ∧ Hid (Below (w.heap.size + 1) (w.alloc (.cells #[.int .i64 kd, .string nm, .int .i64 at0, .slice oa outs.length oc, .slice ca code.length cc, .slice aa args.length ac] 47)) w1) ∧ Hid (Below w'.heap.size w' w1) ∧ w1.cell? ⟨w.heap.size, 1, none⟩ = some (.string nm) ∧ w1.cell? ⟨w.heap.size, 2, none⟩ = some (.int .i64 at0) ∧ w1.cell? ⟨w.heap.size, 3, none⟩ = some (.slice oa outs.length oc) ∧ w1.cell? ⟨w.heap.size, 4, none⟩ = some (.slice ca code.length cc) ∧ w1.cell? ⟨w.heap.size, 5, none⟩ = some (.slice aa args.length ac)) := fun w' hw => (codeParts_ok code _ w' (unhide HEN _ (unhide hw)) (h2.stays RItem_kept (unhide HOUT _ (unhide hw))) hcd).mono (fun e w1 ⟨v, he, hS, hb⟩ => by
    have H9 := box_thruP (unhide hw) hb
    obtain ⟨va, vc, rfl⟩ := hS.shape
    exact ⟨va, vc, he, hS, H9, hb, unhide HCEL _ H9⟩)
  have HKP : Hid (∀ (w1 w2 : World) (v : Value) (xs : List ByteArray), Below (w.heap.size + 1) (w.alloc (.cells #[.int .i64 kd, .string nm, .int .i64 at0, .slice oa outs.length oc, .slice ca code.length cc, .slice aa args.length ac] 47)) w1 → OwnV elStr w1 (w.heap.size + 1) v xs → w1.grownBy w2 v.ownBlock → Below (w.heap.size + 1) (w.alloc (.cells #[.int .i64 kd, .string nm, .int .i64 at0, .slice oa outs.length oc, .slice ca code.length cc, .slice aa args.length ac] 47)) w2) := fun w1 w2 v xs hb ho hg => ho.grown hb hg (by have := hb.size; simp at this; omega) (Nat.le_refl _)
  have HSIZ : Hid (∀ w1, Below (w.heap.size + 1) (w.alloc (.cells #[.int .i64 kd, .string nm, .int .i64 at0, .slice oa outs.length oc, .slice ca code.length cc, .slice aa args.length ac] 47)) w1 → w.heap.size + 1 ≤ w1.heap.size) := fun w1 hb => by have := hb.size; simpa using this
  have hst : stmP ⟨kd, nm, at0, outs, code, args⟩ = [Wcall, dcT at0] ++ outs ++ [Wcol] ++ argsTo args args.length := by
    unfold stmP
    simp only at hk3 ⊢
    rw [if_neg (by omega), if_neg (by omega), if_pos hk3]
  rw [hst] at hw ⊢
  have HW := hide hw
  have hz4 := dcT_sz at0 hat
  have HO1 := hide (fun w' (hb : Below (w.heap.size + 1) (w.alloc (.cells #[.int .i64 kd, .string nm, .int .i64 at0, .slice oa outs.length oc, .slice ca code.length cc, .slice aa args.length ac] 47)) w') => h1.stays RStr_kept (unhide HOUT _ hb))
  have H3 := hide h3
  have HAL := hide hal
  have hol1 := hol.1
  have hal1 := hal.1
  have hwl := lsz_len ([Wcall, dcT at0] ++ outs ++ [Wcol] ++ argsTo args args.length)
  have HAP : Hid (∀ c v w', c ∈ args → Below (w.heap.size + 1) (w.alloc (.cells #[.int .i64 kd, .string nm, .int .i64 at0, .slice oa outs.length oc, .slice ca code.length cc, .slice aa args.length ac] 47)) w' → SlAt 3 32 RItem 0 w' v c → Calls Tryz.prog 54 #[v] w' (PtsPost (codeP c) w')) := fun c v w' hm hb hs => codeParts_ok c v w' (unhide HEN _ hb) hs (hal.2 c hm)
  clear h h1 h2 h3 hcd hol hal hat hst hw HCP hk3 hkd
  generalize dcT at0 = dv at *
  go_enter Tryz.func55, Tryz.ntmps55
  go_wp2_with fail
  go_region_held3 (fun w' => w'.cell? ⟨w.heap.size, 2, none⟩ = some (.int .i64 at0) ∧ w'.cell? ⟨w.heap.size, 3, none⟩ = some (.slice oa outs.length oc)) (go_keep) (first | (go_at_call 29; refine (unhide HIT _ HB0d).mono ?_; rintro e w1 ⟨rfl, HB1, HQ1, k1, k2, k3, k4, k5⟩; have HB1a := hide ((unhide HB1).alloc (unhide HSIZ _ (unhide HB1)) (.cells #[.string ⟨#[99, 97, 108, 108]⟩, .string dv] 9)); have HM := hide (own_made w1 (w.heap.size + 1) [⟨#[99, 97, 108, 108]⟩, dv] _ 2 (unhide HSIZ _ (unhide HB1)) rfl rfl (by simp))) | (refine step_append_allF elStr RStr_fP _ rfl _ _ rfl (w.heap.size + 1) w1.heap.size 2 [⟨#[99, 97, 108, 108]⟩, dv] rfl (unhide HM) _ rfl outs (unhide HO1 _ (unhide HB1a)) (by show (2 + _) * 16 ≤ _; omega) (by simp; have := unhide HSIZ _ (unhide HB1); omega) ?_; intro g2 cap2 w2 ho2 hg2; have HB2 := hide (unhide HKP _ _ _ _ (unhide HB1a) (unhide HM) hg2); have HO2 := hide ho2; obtain ⟨a1, a2, a3, a4, a5⟩ := unhide HCEL _ (unhide HB2); clear ho2 hg2))
  all_goals
    have HB3 := hide ((unhide HB2).alloc (unhide HSIZ _ (unhide HB2)) (.cells #[.string ⟨#[58]⟩] 9))
    have hz2 := unhide HSIZ _ (unhide HB2)
    have HO3 := hide ((unhide HO2).below ((Below.refl w2.heap.size w2).alloc (Nat.le_refl _) (.cells #[.string ⟨#[58]⟩] 9)))
    have hln3 : ([⟨#[99, 97, 108, 108]⟩, dv] ++ outs).length ≤ 2000 := by
      rw [List.length_append]
      simp only [List.length_cons, List.length_nil]
      omega
    have HLN3 := hide hln3
    clear HM HB1a HB1 HQ1 k1 k2 k3 k4 k5 a1 a2 a4 hln3 HIT HO1
    go_wp2_with (at_builtin; go_must (refine wpList_append_oneF elStr _ rfl _ _ rfl (w.heap.size + 1) _ ([⟨#[99, 97, 108, 108]⟩, dv] ++ outs) rfl (unhide HO3) w2.heap.size ⟨#[58]⟩ rfl (fun j u hu => by rw [World.cell?_alloc_at _ _ _ _ rfl]; simpa [elStr] using hu) (by have h9 := unhide HLN3; show (_ + 1) * 16 ≤ _; omega) (by simp; omega) ?_))
    intro v4 w4 hown4 hgr4
    have HB4 := hide (unhide HKP _ _ _ _ (unhide HB3) (unhide HO3) hgr4)
    obtain ⟨P0, hP0⟩ : ∃ P0, P0 = ⟨#[99, 97, 108, 108]⟩ :: dv :: (outs ++ [⟨#[58]⟩]) := ⟨_, rfl⟩
    rw [← hP0] at hown4
    have HO4 := hide hown4
    have hne0 : P0 ≠ [] := by rw [hP0]; simp
    have HNE0 := hide hne0
    have HP0 := hide hP0
    have HW0 : Hid (lsz (P0 ++ argsTo args args.length) ≤ 200000000) := by
      have h8 := unhide HW
      rw [hP0]
      exact h8
    obtain ⟨k1, k2, k3, k4, k5⟩ := unhide HCEL _ (unhide HB4)
    clear hown4 hgr4 hP0 hne0 HO3 HB3 HO2 HB2 HLN3 k1 k2 k3 k4 a3 a5 hz2 hwl
    go_wp2
    go_loopg [3, 19] args.length (fun gh st ix wr => ∃ (q : Nat), q ≤ args.length ∧ gh = args.length - q ∧ ix = .int .i64 q ∧ Hid (OwnV elStr wr (w.heap.size + 1) st (P0 ++ argsTo args q)) ∧ Hid (Below (w.heap.size + 1) (w.alloc (.cells #[.int .i64 kd, .string nm, .int .i64 at0, .slice oa outs.length oc, .slice ca code.length cc, .slice aa args.length ac] 47)) wr))
    case atStart => exact ⟨0, Nat.zero_le _, by omega, rfl, (by rw [argsTo, List.append_nil]; exact HO4), HB4⟩
    case round =>
      obtain ⟨q, hq, hg, rfl, HOW, HBW⟩ := hrel
      have HG := hide hg
      clear hg k5
      have hws := unhide HSIZ _ (unhide HBW)
      by_cases hlt : q < args.length
      · obtain ⟨_, _, hve, _, _, hex⟩ := unhide H3
        simp only [Value.slice.injEq] at hve
        obtain ⟨rfl, _, rfl⟩ := hve
        obtain ⟨b, o, cs, rfl, _, hb, hcs, hc, ⟨vq, rfl, hvq⟩⟩ := hex q hlt
        have hbw := unhide HOUT _ (unhide HBW)
        have z0 : wr.cell? ⟨b, o + q, none⟩ = some vq := by
          have h0 := hc 0 (by simp)
          rw [Nat.mul_one, Nat.add_zero] at h0
          rw [hbw.cell (p := ⟨b, _, none⟩) hb]
          exact h0
        have HSV := hide hvq
        have HT : Hid (P0 ++ argsTo args (q + 1) = P0 ++ argsTo args q ++ (if q = 0 then [] else [Wcom]) ++ codeP args[q]) := by
          refine hide ?_
          rw [argsTo]
          have h2 : args.getD q [] = args[q] := by rw [List.getD_eq_getElem?_getD, List.getElem?_eq_getElem hlt]; rfl
          rw [h2, List.append_assoc, List.append_assoc, List.append_assoc]
        have HWQ : Hid ((P0 ++ argsTo args q).length ≤ 200000000 ∧ (codeP args[q]).length ≤ 6000) := by
          refine hide ⟨?_, ?_⟩
          · have h8 := args_pre P0 args q hq
            have h9 := lsz_len (P0 ++ argsTo args q)
            have := unhide HW0
            omega
          · rw [codeP_len]
            exact ((unhide HAL).2 _ (List.getElem_mem hlt)).len
        have HNQ : Hid (P0 ++ argsTo args q ≠ []) := by
          refine hide ?_
          intro h9
          exact unhide HNE0 (List.append_eq_nil_iff.1 h9).1
        have HCA := hide (unhide HAP args[q] vq · (List.getElem_mem hlt))
        have hltI : (q : Int) < (args.length : Int) := by omega
        clear hc hcs hvq hbw hex
        generalize codeP args[q] = cp at *
        generalize args[q] = arg at *
        generalize P0 ++ argsTo args q = pre at *
        by_cases hq0 : q = 0
        · rw [if_pos hq0, List.append_nil] at HT
          have f1 : decide (0 < (q : Int)) = false := decide_eq_false (by omega)
          have f2 : decide (0 < q) = false := decide_eq_false (by omega)
          have HCB := hide (unhide HCA wr (unhide HBW) ((unhide HSV).stays RItem_kept (unhide HOUT _ (unhide HBW))))
          obtain ⟨g, cap, rfl, hog⟩ : ∃ g cap, u3 = .slice (some ⟨g, 0, none⟩) pre.length cap ∧ True := by
            rcases (unhide HOW).shape with ⟨_, h9⟩ | ⟨g, cap, h9, _⟩
            · exact absurd h9 (unhide HNQ)
            · exact ⟨g, cap, h9, trivial⟩
          have HPN := hide hq0
          clear hq0 hog
          go_wp2_with fail
          refine (unhide HCB).mono ?_
          rintro e w5 ⟨v5, rfl, hS5, hb5⟩
          have HS5 := hide hS5
          have HO5 := hide ((unhide HOW).below hb5)
          have HB5 := hide ((unhide HBW).trans (hb5.mono hws))
          obtain ⟨v5a, v5c, rfl⟩ := hS5.shape
          have hz5 := unhide HSIZ _ (unhide HB5)
          clear hS5 hb5
          go_wp2_with (at_builtin; go_must (refine wpList_append_allF elStr RStr_fP _ rfl _ _ rfl (w.heap.size + 1) g cap pre rfl (unhide HO5) _ rfl cp (unhide HS5) (by have h9 := unhide HWQ; show (_ + _) * 16 ≤ _; omega) hz5 ?_))
          intro g6 cap6 w6 hown6 hgr6
          have HB6 := hide (unhide HKP _ _ _ _ (unhide HB5) (unhide HO5) hgr6)
          rw [← unhide HT] at hown6
          have HO6 := hide hown6
          clear hown6 hgr6
          go_wp2
          go_roundg (args.length - (q + 1))
          case measure => have := unhide HG; omega
          case rel => exact ⟨q + 1, by omega, rfl, by go_num, HO6, HB6⟩
        · rw [if_neg hq0] at HT
          have f1 : decide (0 < (q : Int)) = true := decide_eq_true (by omega)
          have f2 : decide (0 < q) = true := decide_eq_true (by omega)
          have hbA := (Below.refl wr.heap.size wr).alloc (Nat.le_refl _) (.cells #[.string ⟨#[44]⟩] 9)
          have HOA := hide ((unhide HOW).below hbA)
          have HBA := hide ((unhide HBW).trans (hbA.mono hws))
          clear hbA
          go_wp2_with (at_builtin; go_must (refine wpList_append_oneF elStr _ rfl _ _ rfl (w.heap.size + 1) _ pre rfl (unhide HOA) wr.heap.size ⟨#[44]⟩ rfl (fun j u hu => by rw [World.cell?_alloc_at _ _ _ _ rfl]; simpa [elStr] using hu) (by have h9 := unhide HWQ; show (_ + 1) * 16 ≤ _; omega) (by simp; omega) ?_))
          intro v7 w7 hown7 hgr7
          have HB7 := hide (unhide HKP _ _ _ _ (unhide HBA) (unhide HOA) hgr7)
          have HO7 := hide hown7
          have hz7 := unhide HSIZ _ (unhide HB7)
          have HCB := hide (unhide HCA w7 (unhide HB7) ((unhide HSV).stays RItem_kept (unhide HOUT _ (unhide HB7))))
          obtain ⟨g, cap, rfl, hog⟩ : ∃ g cap, v7 = .slice (some ⟨g, 0, none⟩) (pre ++ [(⟨#[44]⟩ : ByteArray)]).length cap ∧ True := by
            rcases (unhide HO7).shape with ⟨_, h9⟩ | ⟨g, cap, h9, _⟩
            · exact absurd h9 (by simp)
            · exact ⟨g, cap, h9, trivial⟩
          obtain ⟨pre2, hp2⟩ : ∃ p2 : List ByteArray, p2 = pre ++ [(⟨#[44]⟩ : ByteArray)] := ⟨_, rfl⟩
          have hT2 : P0 ++ argsTo args (q + 1) = pre2 ++ cp := by
            rw [unhide HT, hp2]
            rfl
          have hl2 : pre2.length ≤ 200000001 := by
            have h9 := unhide HWQ
            rw [hp2, List.length_append]
            simp only [List.length_cons, List.length_nil]
            omega
          rw [← hp2] at HO7 ⊢
          have HT2 := hide hT2
          have HL2 := hide hl2
          have HQ0 := hide hq0
          clear hown7 hgr7 hog hp2 hT2 hl2 hq0
          go_wp2_with fail
          refine (unhide HCB).mono ?_
          rintro e w5 ⟨v5, rfl, hS5, hb5⟩
          have HS5 := hide hS5
          have HO5 := hide ((unhide HO7).below hb5)
          have HB5 := hide ((unhide HB7).trans (hb5.mono hz7))
          obtain ⟨v5a, v5c, rfl⟩ := hS5.shape
          have hz5 := unhide HSIZ _ (unhide HB5)
          clear hS5 hb5
          go_wp2_with (at_builtin; go_must (refine wpList_append_allF elStr RStr_fP _ rfl _ _ rfl (w.heap.size + 1) g cap pre2 rfl (unhide HO5) _ rfl cp (unhide HS5) (by have h9 := unhide HWQ; have h8 := unhide HL2; show (_ + _) * 16 ≤ _; omega) hz5 ?_))
          intro g6 cap6 w6 hown6 hgr6
          have HB6 := hide (unhide HKP _ _ _ _ (unhide HB5) (unhide HO5) hgr6)
          rw [← unhide HT2] at hown6
          have HO6 := hide hown6
          clear hown6 hgr6
          go_wp2
          go_roundg (args.length - (q + 1))
          case measure => have := unhide HG; omega
          case rel => exact ⟨q + 1, by omega, rfl, by go_num, HO6, HB6⟩
      · have e : q = args.length := by omega
        have HF : Hid (OwnV elStr wr (w.heap.size + 1) u3 ([Wcall, dv] ++ outs ++ [Wcol] ++ argsTo args args.length)) := by
          have h8 := unhide HOW
          rw [e, unhide HP0] at h8
          exact h8
        have HFB := hide (unhide HOUT _ (unhide HBW))
        clear e
        go_wp2
        go_ret
        exact ⟨_, _, rfl, unhide HF, unhide HFB⟩

set_option maxRecDepth 20000 in
set_option maxHeartbeats 8000000 in
theorem stmParts_ok (s : DStm) (so sc sa : Value) (w : World) (hE : Env w) (h : LnOK s) (h1 : SlAt 1 16 RStr 0 w so s.outs) (h2 : SlAt 3 32 RItem 0 w sc s.code) (h3 : SlAt 1 24 RItems 0 w sa s.args) (hw : lsz (stmP s) ≤ 200000000) :
    Calls Tryz.prog 30 #[.agg #[.int .i64 s.kind, .string s.name, .int .i64 s.at_, so, sc, sa]] w (OsPost (stmP s) w) := by
  obtain ⟨kd, nm, at0, outs, code, args⟩ := s
  simp only at h1 h2 h3
  obtain ⟨oa, oc, rfl⟩ := h1.shape
  obtain ⟨ca, cc, rfl⟩ := h2.shape
  obtain ⟨aa, ac, rfl⟩ := h3.shape
  have hat := h.st.at_
  have hkd := h.st.kind
  have hol := h.outs
  have hcd := h.code
  have hal := h.args
  simp only at hat hkd hol hcd hal
  have HB0 : Hid (Below (w.heap.size + 1) (w.alloc (.cells #[.int .i64 kd, .string nm, .int .i64 at0, .slice oa outs.length oc, .slice ca code.length cc, .slice aa args.length ac] 47)) (w.alloc (.cells #[.int .i64 kd, .string nm, .int .i64 at0, .slice oa outs.length oc, .slice ca code.length cc, .slice aa args.length ac] 47))) := Below.refl _ _
  have HB0d : Hid (Below (w.heap.size + 1) (w.alloc (.cells #[.int .i64 kd, .string nm, .int .i64 at0, .slice oa outs.length oc, .slice ca code.length cc, .slice aa args.length ac] 47)) (w.alloc (.cells #[.int .i64 kd, .string nm, .int .i64 at0, .slice oa outs.length oc, .slice ca code.length cc, .slice aa args.length ac] 47)).drew) := (unhide HB0).drew
  have HOUT : Hid (∀ w1, Below (w.heap.size + 1) (w.alloc (.cells #[.int .i64 kd, .string nm, .int .i64 at0, .slice oa outs.length oc, .slice ca code.length cc, .slice aa args.length ac] 47)) w1 → Below w.heap.size w w1) := fun w1 h => ((Below.refl w.heap.size w).alloc (Nat.le_refl _) _).trans (h.mono (Nat.le_succ _))
  have HCEL : Hid (∀ w1, Below (w.heap.size + 1) (w.alloc (.cells #[.int .i64 kd, .string nm, .int .i64 at0, .slice oa outs.length oc, .slice ca code.length cc, .slice aa args.length ac] 47)) w1 → w1.cell? ⟨w.heap.size, 1, none⟩ = some (.string nm) ∧ w1.cell? ⟨w.heap.size, 2, none⟩ = some (.int .i64 at0) ∧ w1.cell? ⟨w.heap.size, 3, none⟩ = some (.slice oa outs.length oc) ∧ w1.cell? ⟨w.heap.size, 4, none⟩ = some (.slice ca code.length cc) ∧ w1.cell? ⟨w.heap.size, 5, none⟩ = some (.slice aa args.length ac)) := fun w1 H9 => ⟨(box_cell (B := 0) H9 1).trans rfl, (box_cell (B := 0) H9 2).trans rfl, (box_cell (B := 0) H9 3).trans rfl, (box_cell (B := 0) H9 4).trans rfl, (box_cell (B := 0) H9 5).trans rfl⟩
  have HEN : Hid (∀ w1, Below (w.heap.size + 1) (w.alloc (.cells #[.int .i64 kd, .string nm, .int .i64 at0, .slice oa outs.length oc, .slice ca code.length cc, .slice aa args.length ac] 47)) w1 → Env w1) := fun w1 H9 => hE.below (unhide HOUT _ H9) hE.three
  have HIT : Hid (∀ w', Hid (Below (w.heap.size + 1) (w.alloc (.cells #[.int .i64 kd, .string nm, .int .i64 at0, .slice oa outs.length oc, .slice ca code.length cc, .slice aa args.length ac] 47)) w') → Calls Tryz.prog 29 #[.int .i64 at0] w' fun e w1 => e = .returned (.string (dcT at0)) ∧ Hid (Below (w.heap.size + 1) (w.alloc (.cells #[.int .i64 kd, .string nm, .int .i64 at0, .slice oa outs.length oc, .slice ca code.length cc, .slice aa args.length ac] 47)) w1) ∧ Hid (Below w'.heap.size w' w1) ∧ w1.cell? ⟨w.heap.size, 1, none⟩ = some (.string nm) ∧ w1.cell? ⟨w.heap.size, 2, none⟩ = some (.int .i64 at0) ∧ w1.cell? ⟨w.heap.size, 3, none⟩ = some (.slice oa outs.length oc) ∧ w1.cell? ⟨w.heap.size, 4, none⟩ = some (.slice ca code.length cc) ∧ w1.cell? ⟨w.heap.size, 5, none⟩ = some (.slice aa args.length ac)) := fun w' hw => (itoa_ok at0 hat w' (unhide HEN _ (unhide hw))).mono (fun e w1 ⟨he, hb⟩ => by
    have H9 := box_thruP (unhide hw) hb
    exact ⟨he, H9, hb, unhide HCEL _ H9⟩)
  have HCP : Hid (∀ w', Hid (Below (w.heap.size + 1) (w.alloc (.cells #[.int .i64 kd, .string nm, .int .i64 at0, .slice oa outs.length oc, .slice ca code.length cc, .slice aa args.length ac] 47)) w') → Calls Tryz.prog 54 #[.slice ca code.length cc] w' fun e w1 => ∃ va vc, e = .returned (.slice va (codeP code).length vc) ∧ Hid (SlAt 1 16 RStr 0 w1 (.slice va (codeP code).length vc) (codeP code)) ∧ Hid (Below (w.heap.size + 1) (w.alloc (.cells #[.int .i64 kd, .string nm, .int .i64 at0, .slice oa outs.length oc, .slice ca code.length cc, .slice aa args.length ac] 47)) w1) ∧ Hid (Below w'.heap.size w' w1) ∧ w1.cell? ⟨w.heap.size, 1, none⟩ = some (.string nm) ∧ w1.cell? ⟨w.heap.size, 2, none⟩ = some (.int .i64 at0) ∧ w1.cell? ⟨w.heap.size, 3, none⟩ = some (.slice oa outs.length oc) ∧ w1.cell? ⟨w.heap.size, 4, none⟩ = some (.slice ca code.length cc) ∧ w1.cell? ⟨w.heap.size, 5, none⟩ = some (.slice aa args.length ac)) := fun w' hw => (codeParts_ok code _ w' (unhide HEN _ (unhide hw)) (h2.stays RItem_kept (unhide HOUT _ (unhide hw))) hcd).mono (fun e w1 ⟨v, he, hS, hb⟩ => by
    have H9 := box_thruP (unhide hw) hb
    obtain ⟨va, vc, rfl⟩ := hS.shape
    exact ⟨va, vc, he, hS, H9, hb, unhide HCEL _ H9⟩)
  have HKP : Hid (∀ (w1 w2 : World) (v : Value) (xs : List ByteArray), Below (w.heap.size + 1) (w.alloc (.cells #[.int .i64 kd, .string nm, .int .i64 at0, .slice oa outs.length oc, .slice ca code.length cc, .slice aa args.length ac] 47)) w1 → OwnV elStr w1 (w.heap.size + 1) v xs → w1.grownBy w2 v.ownBlock → Below (w.heap.size + 1) (w.alloc (.cells #[.int .i64 kd, .string nm, .int .i64 at0, .slice oa outs.length oc, .slice ca code.length cc, .slice aa args.length ac] 47)) w2) := fun w1 w2 v xs hb ho hg => ho.grown hb hg (by have := hb.size; simp at this; omega) (Nat.le_refl _)
  have HSIZ : Hid (∀ w1, Below (w.heap.size + 1) (w.alloc (.cells #[.int .i64 kd, .string nm, .int .i64 at0, .slice oa outs.length oc, .slice ca code.length cc, .slice aa args.length ac] 47)) w1 → w.heap.size + 1 ≤ w1.heap.size) := fun w1 hb => by have := hb.size; simpa using this
  have HST : Hid (stmP ⟨kd, nm, at0, outs, code, args⟩ = if kd = 1 then [Wset, nm, Wcol] ++ codeP code else if kd = 2 then [Wsave, dcT at0, Wcol] ++ codeP code else if kd = 3 then [Wcall, dcT at0] ++ outs ++ [Wcol] ++ argsTo args args.length else if kd = 4 then [Wif, nm] else if kd = 5 then [Welse] else [Wend]) := rfl
  have HW := hide hw
  have hz4 := dcT_sz at0 hat
  have HCL : Hid (kd = 3 → Calls Tryz.prog 55 #[.agg #[.int .i64 kd, .string nm, .int .i64 at0, .slice oa outs.length oc, .slice ca code.length cc, .slice aa args.length ac]] (w.alloc (.cells #[.int .i64 kd, .string nm, .int .i64 at0, .slice oa outs.length oc, .slice ca code.length cc, .slice aa args.length ac] 47)) (OsPost (stmP ⟨kd, nm, at0, outs, code, args⟩) (w.alloc (.cells #[.int .i64 kd, .string nm, .int .i64 at0, .slice oa outs.length oc, .slice ca code.length cc, .slice aa args.length ac] 47)))) := fun e3 => callParts_ok ⟨kd, nm, at0, outs, code, args⟩ _ _ _ _ (unhide HEN _ (unhide HB0)) h (h1.stays RStr_kept (unhide HOUT _ (unhide HB0))) (h2.stays RItem_kept (unhide HOUT _ (unhide HB0))) (h3.stays RItems_kept (unhide HOUT _ (unhide HB0))) e3 hw
  have HPL : Hid ((codeP code).length ≤ 6000) := by
    refine hide ?_
    rw [codeP_len]
    exact hcd.len
  have hnm := h.nm
  simp only at hnm
  clear h h1 h2 h3 hcd hol hal hat hw
  generalize stmP ⟨kd, nm, at0, outs, code, args⟩ = ps at *
  generalize dcT at0 = dv at *
  generalize codeP code = cp at *
  by_cases e1 : kd = 1
  · have HF : Hid (ps = [⟨#[115, 101, 116]⟩, nm, ⟨#[58]⟩] ++ cp) := by
      refine hide ?_
      rw [unhide HST, if_pos e1]
      rfl
    clear HST HCL HIT
    subst e1
    have HMA := hide (own_made (w.alloc (.cells #[.int .i64 1, .string nm, .int .i64 at0, .slice oa outs.length oc, .slice ca code.length cc, .slice aa args.length ac] 47)) (w.heap.size + 1) [⟨#[115, 101, 116]⟩, nm, ⟨#[58]⟩] _ 3 (by simp) rfl rfl (by simp))
    have HBA : Hid (Below (w.heap.size + 1) (w.alloc (.cells #[.int .i64 1, .string nm, .int .i64 at0, .slice oa outs.length oc, .slice ca code.length cc, .slice aa args.length ac] 47)) ((w.alloc (.cells #[.int .i64 1, .string nm, .int .i64 at0, .slice oa outs.length oc, .slice ca code.length cc, .slice aa args.length ac] 47)).alloc (.cells #[.string ⟨#[115, 101, 116]⟩, .string nm, .string ⟨#[58]⟩] 9)).drew) := ((unhide HB0).alloc (by simp) _).drew
    rw [World.size_alloc] at HMA
    go_enter Tryz.func30, Tryz.ntmps30
    go_wp2_with fail
    go_region_held3 (fun w' => w'.cell? ⟨w.heap.size, 1, none⟩ = some (.string nm) ∧ w'.cell? ⟨w.heap.size, 4, none⟩ = some (.slice ca code.length cc)) (go_keep) (first | (go_at_call 54; refine (unhide HCP _ (by first | exact HB0d | exact HBA)).mono ?_; rintro e w1 ⟨va, vc, rfl, HS1, HB1, HQ1, k1, k2, k3, k4, k5⟩; have HM := hide (own_made w1 (w.heap.size + 1) [⟨#[115, 101, 116]⟩, nm, ⟨#[58]⟩] _ 3 (unhide HSIZ _ (unhide HB1)) rfl rfl (by simp)); have HB1a := hide ((unhide HB1).alloc (unhide HSIZ _ (unhide HB1)) (.cells #[.string ⟨#[115, 101, 116]⟩, .string nm, .string ⟨#[58]⟩] 9))) | (refine step_append_allF elStr RStr_fP _ rfl _ _ rfl (w.heap.size + 1) (w.heap.size + 1) 3 [⟨#[115, 101, 116]⟩, nm, ⟨#[58]⟩] rfl (((unhide HMA).below (Below.refl _ _).drew).below (unhide HQ1)) _ rfl cp (unhide HS1) (by have := unhide HPL; show (3 + _) * 16 ≤ _; omega) (unhide HSIZ _ (unhide HB1)) ?_; intro g2 cap2 w2 ho2 hg2; have HB2 := hide (unhide HKP _ _ _ _ (unhide HB1) (((unhide HMA).below (Below.refl _ _).drew).below (unhide HQ1)) hg2); have HO2 := hide ho2; obtain ⟨a1, a2, a3, a4, a5⟩ := unhide HCEL _ (unhide HB2); clear ho2 hg2) | (refine step_append_allF elStr RStr_fP _ rfl _ _ rfl (w.heap.size + 1) w1.heap.size 3 [⟨#[115, 101, 116]⟩, nm, ⟨#[58]⟩] rfl (unhide HM) _ rfl cp ((unhide HS1).stays RStr_kept ((Below.refl _ _).alloc (Nat.le_refl _) _)) (by have := unhide HPL; show (3 + _) * 16 ≤ _; omega) (unhide HSIZ _ (unhide HB1a)) ?_; intro g2 cap2 w2 ho2 hg2; have HB2 := hide (unhide HKP _ _ _ _ (unhide HB1a) (unhide HM) hg2); have HO2 := hide ho2; obtain ⟨a1, a2, a3, a4, a5⟩ := unhide HCEL _ (unhide HB2); clear ho2 hg2))
    all_goals
      have HFS : Hid (OwnV elStr w2 (w.heap.size + 1) (.slice (some ⟨g2, 0, none⟩) ([⟨#[115, 101, 116]⟩, nm, ⟨#[58]⟩].length + cp.length) cap2) ps) := by
        rw [unhide HF]
        exact unhide HO2
      have HFB := hide (unhide HOUT _ (unhide HB2))
      go_wp2
      go_ret
      exact ⟨_, _, rfl, unhide HFS, unhide HFB⟩
  by_cases e2 : kd = 2
  · have HF : Hid (ps = [⟨#[115, 97, 118, 101]⟩, dv, ⟨#[58]⟩] ++ cp) := by
      refine hide ?_
      rw [unhide HST, if_neg e1, if_pos e2]
      rfl
    clear HST HCL
    subst e2
    go_enter Tryz.func30, Tryz.ntmps30
    go_wp2_with fail
    go_region_held3 (fun w' => w'.cell? ⟨w.heap.size, 2, none⟩ = some (.int .i64 at0) ∧ w'.cell? ⟨w.heap.size, 4, none⟩ = some (.slice ca code.length cc)) (go_keep) (first | (go_at_call 29; refine (unhide HIT _ (by first | exact HBc | exact HB0d)).mono ?_; rintro e wi ⟨rfl, HBi, HQi, j1, j2, j3, j4, j5⟩; have HMi := hide (own_made wi (w.heap.size + 1) [⟨#[115, 97, 118, 101]⟩, dv, ⟨#[58]⟩] _ 3 (unhide HSIZ _ (unhide HBi)) rfl rfl (by simp)); have HBia := hide ((unhide HBi).alloc (unhide HSIZ _ (unhide HBi)) (.cells #[.string ⟨#[115, 97, 118, 101]⟩, .string dv, .string ⟨#[58]⟩] 9))) | (go_at_call 54; refine (unhide HCP _ (by first | exact HBia | exact HBi | exact HB0d)).mono ?_; rintro e wc ⟨va, vc, rfl, HSc, HBc, HQc, k1, k2, k3, k4, k5⟩; have HMc := hide (own_made wc (w.heap.size + 1) [⟨#[115, 97, 118, 101]⟩, dv, ⟨#[58]⟩] _ 3 (unhide HSIZ _ (unhide HBc)) rfl rfl (by simp)); have HBca := hide ((unhide HBc).alloc (unhide HSIZ _ (unhide HBc)) (.cells #[.string ⟨#[115, 97, 118, 101]⟩, .string dv, .string ⟨#[58]⟩] 9))) | (refine step_append_allF elStr RStr_fP _ rfl _ _ rfl (w.heap.size + 1) wi.heap.size 3 [⟨#[115, 97, 118, 101]⟩, dv, ⟨#[58]⟩] rfl ((unhide HMi).below (unhide HQc)) _ rfl cp (unhide HSc) (by have := unhide HPL; show (3 + _) * 16 ≤ _; omega) (unhide HSIZ _ (unhide HBc)) ?_; intro g2 cap2 w2 ho2 hg2; have HB2 := hide (unhide HKP _ _ _ _ (unhide HBc) ((unhide HMi).below (unhide HQc)) hg2); have HO2 := hide ho2; obtain ⟨a1, a2, a3, a4, a5⟩ := unhide HCEL _ (unhide HB2); clear ho2 hg2) | (refine step_append_allF elStr RStr_fP _ rfl _ _ rfl (w.heap.size + 1) wc.heap.size 3 [⟨#[115, 97, 118, 101]⟩, dv, ⟨#[58]⟩] rfl (unhide HMc) _ rfl cp ((unhide HSc).stays RStr_kept ((Below.refl _ _).alloc (Nat.le_refl _) _)) (by have := unhide HPL; show (3 + _) * 16 ≤ _; omega) (unhide HSIZ _ (unhide HBca)) ?_; intro g2 cap2 w2 ho2 hg2; have HB2 := hide (unhide HKP _ _ _ _ (unhide HBca) (unhide HMc) hg2); have HO2 := hide ho2; obtain ⟨a1, a2, a3, a4, a5⟩ := unhide HCEL _ (unhide HB2); clear ho2 hg2) | (refine step_append_allF elStr RStr_fP _ rfl _ _ rfl (w.heap.size + 1) wi.heap.size 3 [⟨#[115, 97, 118, 101]⟩, dv, ⟨#[58]⟩] rfl (unhide HMi) _ rfl cp (((unhide HSc).stays RStr_kept (unhide HQi)).stays RStr_kept ((Below.refl _ _).alloc (Nat.le_refl _) _)) (by have := unhide HPL; show (3 + _) * 16 ≤ _; omega) (unhide HSIZ _ (unhide HBia)) ?_; intro g2 cap2 w2 ho2 hg2; have HB2 := hide (unhide HKP _ _ _ _ (unhide HBia) (unhide HMi) hg2); have HO2 := hide ho2; obtain ⟨a1, a2, a3, a4, a5⟩ := unhide HCEL _ (unhide HB2); clear ho2 hg2))
    all_goals
      have HFS : Hid (OwnV elStr w2 (w.heap.size + 1) (.slice (some ⟨g2, 0, none⟩) ([⟨#[115, 97, 118, 101]⟩, dv, ⟨#[58]⟩].length + cp.length) cap2) ps) := by
        rw [unhide HF]
        exact unhide HO2
      have HFB := hide (unhide HOUT _ (unhide HB2))
      go_wp2
      go_ret
      exact ⟨_, _, rfl, unhide HFS, unhide HFB⟩
  by_cases e3 : kd = 3
  · have HC := hide (unhide HCL e3)
    clear HCL HST HIT HCP HKP e1 e2 hkd
    subst e3
    go_enter Tryz.func30, Tryz.ntmps30
    go_wp2_with fail
    refine (unhide HC).mono ?_
    rintro e w1 ⟨v1, ba1, rfl, hS1, hb1⟩
    have HS1 := hide hS1
    have HFB := hide (unhide HOUT _ (box_of hb1))
    clear hS1 hb1
    go_wp2
    go_ret
    exact ⟨_, _, rfl, unhide HS1, unhide HFB⟩
  by_cases e4 : kd = 4
  · have HF : Hid (ps = [⟨#[105, 102]⟩, nm]) := by
      refine hide ?_
      rw [unhide HST, if_neg e1, if_neg e2, if_neg e3, if_pos e4]
      rfl
    clear HST HCL HIT HCP HKP
    subst e4
    have HM := hide (own_made (w.alloc (.cells #[.int .i64 4, .string nm, .int .i64 at0, .slice oa outs.length oc, .slice ca code.length cc, .slice aa args.length ac] 47)) (w.heap.size + 1) [⟨#[105, 102]⟩, nm] _ 2 (by simp) rfl rfl (by simp))
    rw [World.size_alloc] at HM
    have HFS : Hid (OwnV elStr ((w.alloc (.cells #[.int .i64 4, .string nm, .int .i64 at0, .slice oa outs.length oc, .slice ca code.length cc, .slice aa args.length ac] 47)).alloc (.cells #[.string ⟨#[105, 102]⟩, .string nm] 9)) (w.heap.size + 1) (.slice (some ⟨w.heap.size + 1, 0, none⟩) 2 2) ps) := by
      rw [unhide HF]
      exact unhide HM
    have HFB := hide (unhide HOUT _ ((unhide HB0).alloc (by simp) (.cells #[.string ⟨#[105, 102]⟩, .string nm] 9)))
    clear HM
    go_enter Tryz.func30, Tryz.ntmps30
    go_wp2
    go_ret
    exact ⟨_, _, rfl, unhide HFS, unhide HFB⟩
  by_cases e5 : kd = 5
  · have HF : Hid (ps = [⟨#[101, 108, 115, 101]⟩]) := by
      refine hide ?_
      rw [unhide HST, if_neg e1, if_neg e2, if_neg e3, if_neg e4, if_pos e5]
      rfl
    clear HST HCL HIT HCP HKP
    subst e5
    have HM := hide (own_made (w.alloc (.cells #[.int .i64 5, .string nm, .int .i64 at0, .slice oa outs.length oc, .slice ca code.length cc, .slice aa args.length ac] 47)) (w.heap.size + 1) [⟨#[101, 108, 115, 101]⟩] _ 1 (by simp) rfl rfl (by simp))
    rw [World.size_alloc] at HM
    have HFS : Hid (OwnV elStr ((w.alloc (.cells #[.int .i64 5, .string nm, .int .i64 at0, .slice oa outs.length oc, .slice ca code.length cc, .slice aa args.length ac] 47)).alloc (.cells #[.string ⟨#[101, 108, 115, 101]⟩] 9)) (w.heap.size + 1) (.slice (some ⟨w.heap.size + 1, 0, none⟩) 1 1) ps) := by
      rw [unhide HF]
      exact unhide HM
    have HFB := hide (unhide HOUT _ ((unhide HB0).alloc (by simp) (.cells #[.string ⟨#[101, 108, 115, 101]⟩] 9)))
    clear HM
    go_enter Tryz.func30, Tryz.ntmps30
    go_wp2
    go_ret
    exact ⟨_, _, rfl, unhide HFS, unhide HFB⟩
  have e6 : kd = 6 := by omega
  have HF : Hid (ps = [⟨#[101, 110, 100]⟩]) := by
    refine hide ?_
    rw [unhide HST, if_neg e1, if_neg e2, if_neg e3, if_neg e4, if_neg e5]
    rfl
  clear HST HCL HIT HCP HKP
  subst e6
  have HM := hide (own_made (w.alloc (.cells #[.int .i64 6, .string nm, .int .i64 at0, .slice oa outs.length oc, .slice ca code.length cc, .slice aa args.length ac] 47)) (w.heap.size + 1) [⟨#[101, 110, 100]⟩] _ 1 (by simp) rfl rfl (by simp))
  rw [World.size_alloc] at HM
  have HFS : Hid (OwnV elStr ((w.alloc (.cells #[.int .i64 6, .string nm, .int .i64 at0, .slice oa outs.length oc, .slice ca code.length cc, .slice aa args.length ac] 47)).alloc (.cells #[.string ⟨#[101, 110, 100]⟩] 9)) (w.heap.size + 1) (.slice (some ⟨w.heap.size + 1, 0, none⟩) 1 1) ps) := by
    rw [unhide HF]
    exact unhide HM
  have HFB := hide (unhide HOUT _ ((unhide HB0).alloc (by simp) (.cells #[.string ⟨#[101, 110, 100]⟩] 9)))
  clear HM
  go_enter Tryz.func30, Tryz.ntmps30
  go_wp2
  go_ret
  exact ⟨_, _, rfl, unhide HFS, unhide HFB⟩

end Go.Proofs.YtmglbkndjnflkaaGreatDoor
