import Derived.Test.YtlgeioedgaajoaaGreatDoorTS1
import Derived.Deep.MidRow
namespace Go.Proofs.YtlgeioedgaajoaaGreatDoor
open Go.RowKit
set_option linter.unusedSimpArgs false
set_option linter.unusedVariables false

theorem condText_ok (nm : ByteArray) (on : Bool) (w : World) (h : nm.size ≤ 40) :
    Calls Tryz.prog 76 #[.agg #[.string nm, .bool on]] w (Ans (.string (cnT on nm)) w) := by
  go_enter Tryz.func76, Tryz.ntmps76
  cases on
  all_goals
    go_wp2
    go_ret
    exact ⟨rfl, (Below.refl _ _).alloc (Nat.le_refl _) _⟩

theorem truthText_ok (v : Int) (w : World) (h : v = 0 ∨ v = 1) :
    Calls Tryz.prog 115 #[.int .i64 v] w fun e w' => e = .returned (.string (flT v)) ∧ w' = w := by
  rcases h with rfl | rfl
  all_goals
    go_enter Tryz.func115, Tryz.ntmps115
    go_wp2
    go_ret
    exact ⟨rfl, rfl⟩

def opTab : List (ByteArray × Int × Int) := [(⟨#[111, 114]⟩, 1, 18), (⟨#[120, 111, 114]⟩, 1, 19), (⟨#[97, 110, 100]⟩, 2, 17), (⟨#[61]⟩, 3, 11), (⟨#[60, 62]⟩, 3, 12), (⟨#[60]⟩, 3, 13), (⟨#[60, 61]⟩, 3, 14), (⟨#[62]⟩, 3, 15), (⟨#[62, 61]⟩, 3, 16), (⟨#[43]⟩, 4, 6), (⟨#[45]⟩, 4, 7), (⟨#[42]⟩, 5, 8), (⟨#[47]⟩, 5, 9), (⟨#[109, 111, 100]⟩, 5, 10)]
def opCs (x : ByteArray × Int × Int) : List Value := [.string x.1, .int .i64 x.2.1, .int .i64 x.2.2]
def opCells : List Value := opTab.flatMap opCs
def opAt (k : Nat) : ByteArray × Int × Int := opTab.getD k (⟨#[]⟩, 0, 0)
theorem u158 : Tryz.prog.underlying 159 = some (.array 14 158) := by kernel_rfl
theorem i158 : (Tryz.prog.info? 159).map (·.size) = some opCells.length := by kernel_rfl
theorem part_op0 (w : World) : (Instr.index 159 (.agg opCells.toArray) (.int .i64 ((0 : Nat) : Int))).run Tryz.prog w = .ok (.agg #[.string (opAt 0).1, .int .i64 (opAt 0).2.1, .int .i64 (opAt 0).2.2]) w := by kernel_rfl
theorem part_op1 (w : World) : (Instr.index 159 (.agg opCells.toArray) (.int .i64 ((1 : Nat) : Int))).run Tryz.prog w = .ok (.agg #[.string (opAt 1).1, .int .i64 (opAt 1).2.1, .int .i64 (opAt 1).2.2]) w := by kernel_rfl
theorem part_op2 (w : World) : (Instr.index 159 (.agg opCells.toArray) (.int .i64 ((2 : Nat) : Int))).run Tryz.prog w = .ok (.agg #[.string (opAt 2).1, .int .i64 (opAt 2).2.1, .int .i64 (opAt 2).2.2]) w := by kernel_rfl
theorem part_op3 (w : World) : (Instr.index 159 (.agg opCells.toArray) (.int .i64 ((3 : Nat) : Int))).run Tryz.prog w = .ok (.agg #[.string (opAt 3).1, .int .i64 (opAt 3).2.1, .int .i64 (opAt 3).2.2]) w := by kernel_rfl
theorem part_op4 (w : World) : (Instr.index 159 (.agg opCells.toArray) (.int .i64 ((4 : Nat) : Int))).run Tryz.prog w = .ok (.agg #[.string (opAt 4).1, .int .i64 (opAt 4).2.1, .int .i64 (opAt 4).2.2]) w := by kernel_rfl
theorem part_op5 (w : World) : (Instr.index 159 (.agg opCells.toArray) (.int .i64 ((5 : Nat) : Int))).run Tryz.prog w = .ok (.agg #[.string (opAt 5).1, .int .i64 (opAt 5).2.1, .int .i64 (opAt 5).2.2]) w := by kernel_rfl
theorem part_op6 (w : World) : (Instr.index 159 (.agg opCells.toArray) (.int .i64 ((6 : Nat) : Int))).run Tryz.prog w = .ok (.agg #[.string (opAt 6).1, .int .i64 (opAt 6).2.1, .int .i64 (opAt 6).2.2]) w := by kernel_rfl
theorem part_op7 (w : World) : (Instr.index 159 (.agg opCells.toArray) (.int .i64 ((7 : Nat) : Int))).run Tryz.prog w = .ok (.agg #[.string (opAt 7).1, .int .i64 (opAt 7).2.1, .int .i64 (opAt 7).2.2]) w := by kernel_rfl
theorem part_op8 (w : World) : (Instr.index 159 (.agg opCells.toArray) (.int .i64 ((8 : Nat) : Int))).run Tryz.prog w = .ok (.agg #[.string (opAt 8).1, .int .i64 (opAt 8).2.1, .int .i64 (opAt 8).2.2]) w := by kernel_rfl
theorem part_op9 (w : World) : (Instr.index 159 (.agg opCells.toArray) (.int .i64 ((9 : Nat) : Int))).run Tryz.prog w = .ok (.agg #[.string (opAt 9).1, .int .i64 (opAt 9).2.1, .int .i64 (opAt 9).2.2]) w := by kernel_rfl
theorem part_op10 (w : World) : (Instr.index 159 (.agg opCells.toArray) (.int .i64 ((10 : Nat) : Int))).run Tryz.prog w = .ok (.agg #[.string (opAt 10).1, .int .i64 (opAt 10).2.1, .int .i64 (opAt 10).2.2]) w := by kernel_rfl
theorem part_op11 (w : World) : (Instr.index 159 (.agg opCells.toArray) (.int .i64 ((11 : Nat) : Int))).run Tryz.prog w = .ok (.agg #[.string (opAt 11).1, .int .i64 (opAt 11).2.1, .int .i64 (opAt 11).2.2]) w := by kernel_rfl
theorem part_op12 (w : World) : (Instr.index 159 (.agg opCells.toArray) (.int .i64 ((12 : Nat) : Int))).run Tryz.prog w = .ok (.agg #[.string (opAt 12).1, .int .i64 (opAt 12).2.1, .int .i64 (opAt 12).2.2]) w := by kernel_rfl
theorem part_op13 (w : World) : (Instr.index 159 (.agg opCells.toArray) (.int .i64 ((13 : Nat) : Int))).run Tryz.prog w = .ok (.agg #[.string (opAt 13).1, .int .i64 (opAt 13).2.1, .int .i64 (opAt 13).2.2]) w := by kernel_rfl
theorem part_op : ∀ (k : Nat) (_ : k < 14) (w : World), (Instr.index 159 (.agg opCells.toArray) (.int .i64 k)).run Tryz.prog w = .ok (.agg #[.string (opAt k).1, .int .i64 (opAt k).2.1, .int .i64 (opAt k).2.2]) w
  | 0, _, w => part_op0 w
  | 1, _, w => part_op1 w
  | 2, _, w => part_op2 w
  | 3, _, w => part_op3 w
  | 4, _, w => part_op4 w
  | 5, _, w => part_op5 w
  | 6, _, w => part_op6 w
  | 7, _, w => part_op7 w
  | 8, _, w => part_op8 w
  | 9, _, w => part_op9 w
  | 10, _, w => part_op10 w
  | 11, _, w => part_op11 w
  | 12, _, w => part_op12 w
  | 13, _, w => part_op13 w
  | k + 14, h, _ => absurd h (by omega)
theorem sgT_at : ∀ k, k < 14 → sgT (opAt k).2.2 = (opAt k).1 := by decide
theorem sgT_no (op : Int) (h : ∀ j, j < 14 → (opAt j).2.2 ≠ op) : sgT op = ⟨#[]⟩ := by
  have h0 : ¬ op = 18 := fun e => h 0 (by decide) e.symm
  have h1 : ¬ op = 19 := fun e => h 1 (by decide) e.symm
  have h2 : ¬ op = 17 := fun e => h 2 (by decide) e.symm
  have h3 : ¬ op = 11 := fun e => h 3 (by decide) e.symm
  have h4 : ¬ op = 12 := fun e => h 4 (by decide) e.symm
  have h5 : ¬ op = 13 := fun e => h 5 (by decide) e.symm
  have h6 : ¬ op = 14 := fun e => h 6 (by decide) e.symm
  have h7 : ¬ op = 15 := fun e => h 7 (by decide) e.symm
  have h8 : ¬ op = 16 := fun e => h 8 (by decide) e.symm
  have h9 : ¬ op = 6 := fun e => h 9 (by decide) e.symm
  have h10 : ¬ op = 7 := fun e => h 10 (by decide) e.symm
  have h11 : ¬ op = 8 := fun e => h 11 (by decide) e.symm
  have h12 : ¬ op = 9 := fun e => h 12 (by decide) e.symm
  have h13 : ¬ op = 10 := fun e => h 13 (by decide) e.symm
  simp only [sgT, if_neg h0, if_neg h1, if_neg h2, if_neg h3, if_neg h4, if_neg h5, if_neg h6, if_neg h7, if_neg h8, if_neg h9, if_neg h10, if_neg h11, if_neg h12, if_neg h13]

theorem wpList_index {P : Program} {ops : Array Oper} {rest : List Oper} {op : Oper} {a : Act} {w : World} {Q : Exit → Act → World → Prop} (hgd : op.guard = none) (ty : TypeId) (x i : Operand) (ho : op.op = .index ty x i)
    (vx vi v : Value) (hx : a.eval x = vx) (hi : a.eval i = vi) (hr : (Instr.index ty vx vi).run P w = .ok v w) (h : wpList P ops Q rest (a.put op.dst v) w) : wpList P ops Q (op :: rest) a w :=
  wpList_plain hgd fun _ hK => by
    unfold Oper.wp execOp
    simp only [ho, hx, hi, Sem.run_bind, hr, Result.andThen_ok, Sem.run_pure]
    exact hK _ _ h

set_option maxHeartbeats 1000000 in
theorem signText_ok (op : Int) (w : World) (h : w.rangeAt 1 0 opCells) :
    Calls Tryz.prog 116 #[.int .i64 op] w (Ans (.string (sgT op)) w) := by
  have HH := hide h
  have HP := hide part_op
  clear h
  go_enter Tryz.func116, Tryz.ntmps116
  go_wp2_with (refine wpList_load_mid rfl 159 (.global 1) rfl 1 0 rfl opCells (.array 14 158) (unhide HH) u158 rfl i158 ?_)
  generalize opCells.toArray = OC at *
  go_loopg [6] 14 (fun g i wr => ∃ (k : Nat), k ≤ 14 ∧ g = 14 - k ∧ i = .int .i64 k ∧ (∀ j, j < k → (opAt j).2.2 ≠ op) ∧ Below w.heap.size w wr)
  case atStart => exact ⟨0, Nat.zero_le _, rfl, rfl, fun j hj => absurd hj (Nat.not_lt_zero _), Below.refl _ _⟩
  case round =>
    obtain ⟨k, hk, hg, rfl, hno, hbl⟩ := hrel
    have HG := hide hg
    have HN := hide hno
    clear hg hno
    by_cases hlt : k < 14
    · have HI := hide (unhide HP k hlt)
      have HS := hide (sgT_at k hlt)
      have HE : Hid (opAt k = opAt k) := rfl
      by_cases he : (opAt k).2.2 = op
      · subst he
        generalize opAt k = p at *
        obtain ⟨s, l, o⟩ := p
        simp only at *
        go_wp2_with (refine wpList_index rfl 159 (.tmp 5) (.tmp 6) rfl (.agg OC) (.int .i64 k) _ rfl rfl (unhide HI _) ?_)
        go_ret
        exact ⟨ret_str (unhide HS).symm, hbl.alloc hbl.size _⟩
      · have HN2 : Hid (∀ j, j < k + 1 → (opAt j).2.2 ≠ op) := fun j hj => by
          by_cases hjk : j = k
          · subst hjk; exact he
          · exact unhide HN j (by omega)
        generalize hq : opAt k = p at *
        obtain ⟨s, l, o⟩ := p
        simp only at *
        have HQ := hide hq
        clear hq
        go_wp2_with (refine wpList_index rfl 159 (.tmp 5) (.tmp 6) rfl (.agg OC) (.int .i64 k) _ rfl rfl (unhide HI _) ?_)
        go_roundg (14 - (k + 1))
        case measure => have := unhide HG; omega
        case rel => exact ⟨k + 1, by omega, rfl, by go_num, unhide HN2, hbl.alloc hbl.size _⟩
    · have e : k = 14 := by omega
      subst e
      go_wp2
      go_ret
      exact ⟨ret_str (sgT_no op (unhide HN)).symm, hbl⟩

end Go.Proofs.YtlgeioedgaajoaaGreatDoor
