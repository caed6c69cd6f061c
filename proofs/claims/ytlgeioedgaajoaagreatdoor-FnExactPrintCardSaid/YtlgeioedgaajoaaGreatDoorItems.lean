import Derived.Test.YtlgeioedgaajoaaGreatDoorImplFresh
namespace Go.Proofs.YtlgeioedgaajoaaGreatDoor
open Go.RowKit
set_option linter.unusedSimpArgs false
set_option linter.unusedVariables false

def arI (op : Int) : Int := if (1 ≤ op ∧ op ≤ 3) ∨ op = 25 then 0 else if op = 4 ∨ op = 5 ∨ op = 21 ∨ op = 22 ∨ op = 23 then 1 else if (6 ≤ op ∧ op ≤ 19) ∨ op = 24 then 2 else if op = 20 then 3 else -1
def ocI (op : Int) : Int := if op = 1 ∨ op = 2 ∨ op = 3 ∨ op = 25 then 0 else if op = 4 ∨ op = 5 ∨ op = 21 ∨ op = 22 ∨ op = 23 then 1 else if op = 20 then 3 else 2
def loI (op : Int) : Int := if op = 21 then -2147483647 else 0
def hiI (op : Int) : Int := if op = 1 ∨ op = 21 then 2147483647 else if op = 2 ∨ op = 22 ∨ op = 23 then 1 else 0
def namedB (op : Int) : Bool := decide (op = 3 ∨ op = 23 ∨ op = 24)

theorem ret_int {a b : Int} (h : a = b) : Ending.returned (.int .i64 a) = .returned (.int .i64 b) := by rw [h]
theorem ret_int2 {a b c d : Int} (h : a = b) (g : c = d) : Ending.returned (.tuple #[.int .i64 a, .int .i64 c]) = .returned (.tuple #[.int .i64 b, .int .i64 d]) := by rw [h, g]

theorem arI_bd (op : Int) : -1 ≤ arI op ∧ arI op ≤ 3 := by unfold arI; split <;> (try split) <;> (try split) <;> (try split) <;> omega
theorem ocI_bd (op : Int) : 0 ≤ ocI op ∧ ocI op ≤ 3 := by unfold ocI; split <;> (try split) <;> (try split) <;> omega

set_option maxHeartbeats 1000000 in
theorem l1Arity_ok (op : Int) (w : World) (h : I64 op) :
    Calls Tryz.prog 40 #[.int .i64 op] w fun e w' => e = .returned (.int .i64 (arI op)) ∧ w' = w := by
  unfold I64 at h
  go_enter Tryz.func40, Tryz.ntmps40
  go_wp2
  all_goals
    go_ret
    refine ⟨ret_int ?_, rfl⟩
    simp_all [arI]
    try omega

set_option maxHeartbeats 1000000 in
theorem operandCount_ok (op : Int) (w : World) :
    Calls Tryz.prog 101 #[.int .i64 op] w fun e w' => e = .returned (.int .i64 (ocI op)) ∧ w' = w := by
  go_enter Tryz.func101, Tryz.ntmps101
  go_wp2
  all_goals
    go_ret
    refine ⟨ret_int ?_, rfl⟩
    simp_all [ocI]
    try omega

set_option maxHeartbeats 1000000 in
theorem valueRange_ok (op : Int) (w : World) :
    Calls Tryz.prog 111 #[.int .i64 op] w fun e w' => e = .returned (.tuple #[.int .i64 (loI op), .int .i64 (hiI op)]) ∧ w' = w := by
  go_enter Tryz.func111, Tryz.ntmps111
  go_wp2
  all_goals
    go_ret2
    refine ⟨ret_int2 ?_ ?_, rfl⟩
    all_goals
      simp_all [loI, hiI]
      try omega

end Go.Proofs.YtlgeioedgaajoaaGreatDoor
