/-
  No cell of these rows narrows 'for every input' (looked for: loops, veiled, ifaces, maps, wideKeys, modest, calm, conditions, laid).
  DERIVED. THE GIVEN ROWS OF THIS SEAT. 5 by the template 'for every input the law returns true; each argument reads behind the call as it read before'; 0 by the template 'total and deterministic' (their statements: YtjjldnkhadakcaaGreatTotals.lean).
  GIVEN WITH THE SEED: the statements are not yours to turn. If you find one false, say at which input.
  Laid BY PROGRAM, IN A SANDBOX (cutbox-rows.mjs): the forced cells as the released guide's own fill.sh prints them over the translation 33b3b1f32688e86f… (all of the seat's roots in one cut). By AI agents, Wed Nov 11 2026. No macro, syntax, notation, axiom, sorry.
-/
import Derived.Test.YtjjldnkhadakcaaGreatChecked
import GoSem.Claim
import GoSem.ClaimJoined
import GoSem.ClaimMapViews
import Derived.JoinedTies
import Derived.KernelRfl
namespace Go.Proofs.YtjjldnkhadakcaaGreat
/- THE CELL 'sum', in the pinned program and in every row, IS THE sha256 OF THE DUMP (.gsa) THAT YtjjldnkhadakcaaGreatProg.lean LOADS. Nothing in Lean hashes anything: it is a label: what it is worth is what the hold of that sum in a sandbox is worth. -/
noncomputable def Tryz.pinned : Pinned := { name := "ytjjldnkhadakcaagreat", sum := "33b3b1f32688e86f30e2bd733057ed16e32e5a4f8a6829b14a34ba23202f82ba", checked := Tryz.checked }
namespace Rows
def none {H : Type} : Left H := { results := [], args := [] }

/-- 'laws.FnExactMachineOK': WHATEVER THE INPUT: true; the input reads as it did. -/
def fnExactMachineOKSpec : ChangeSpec := { name := "fnExactMachineOK", fn := fun _ => fun
  | [d] => { results := [.lit (.bool true)], args := [d] }
  | _ => none }
def fnExactMachineOKRow : OpenClaim := { program := "ytjjldnkhadakcaagreat", sum := "33b3b1f32688e86f30e2bd733057ed16e32e5a4f8a6829b14a34ba23202f82ba", func := "loop.example/s0043/laws.FnExactMachineOK", spec := "fnExactMachineOK", unfollowed := true, recurses := true, apart := false }
def FnExactMachineOKSaid : Prop := fnExactMachineOKRow.holds Tryz.pinned (OpenSpec.ofChange fnExactMachineOKSpec)

/-- ITS FALSE NEIGHBOUR: 'it returns false'. Refute it at one input. -/
def fnExactMachineOKWrong : ChangeSpec := { name := "fnExactMachineOK", fn := fun _ => fun
  | [d] => { results := [.lit (.bool false)], args := [d] }
  | _ => none }
def FnExactMachineOKWrongFalsely : Prop := fnExactMachineOKRow.holds Tryz.pinned (OpenSpec.ofChange fnExactMachineOKWrong)

/-- 'laws.FnExactCells': WHATEVER THE INPUT: true; the input reads as it did. -/
def fnExactCellsSpec : ChangeSpec := { name := "fnExactCells", fn := fun _ => fun
  | [d1, d2] => { results := [.lit (.bool true)], args := [d1, d2] }
  | _ => none }
def fnExactCellsRow : OpenClaim := { program := "ytjjldnkhadakcaagreat", sum := "33b3b1f32688e86f30e2bd733057ed16e32e5a4f8a6829b14a34ba23202f82ba", func := "loop.example/s0043/laws.FnExactCells", spec := "fnExactCells", unfollowed := true, recurses := true, apart := false }
def FnExactCellsSaid : Prop := fnExactCellsRow.holds Tryz.pinned (OpenSpec.ofChange fnExactCellsSpec)

/-- ITS FALSE NEIGHBOUR: 'it returns false'. Refute it at one input. -/
def fnExactCellsWrong : ChangeSpec := { name := "fnExactCells", fn := fun _ => fun
  | [d1, d2] => { results := [.lit (.bool false)], args := [d1, d2] }
  | _ => none }
def FnExactCellsWrongFalsely : Prop := fnExactCellsRow.holds Tryz.pinned (OpenSpec.ofChange fnExactCellsWrong)

/-- 'laws.FnExactBound': WHATEVER THE INPUT: true; the input reads as it did. -/
def fnExactBoundSpec : ChangeSpec := { name := "fnExactBound", fn := fun _ => fun
  | [d1, d2] => { results := [.lit (.bool true)], args := [d1, d2] }
  | _ => none }
def fnExactBoundRow : OpenClaim := { program := "ytjjldnkhadakcaagreat", sum := "33b3b1f32688e86f30e2bd733057ed16e32e5a4f8a6829b14a34ba23202f82ba", func := "loop.example/s0043/laws.FnExactBound", spec := "fnExactBound", unfollowed := true, recurses := true, apart := false }
def FnExactBoundSaid : Prop := fnExactBoundRow.holds Tryz.pinned (OpenSpec.ofChange fnExactBoundSpec)

/-- ITS FALSE NEIGHBOUR: 'it returns false'. Refute it at one input. -/
def fnExactBoundWrong : ChangeSpec := { name := "fnExactBound", fn := fun _ => fun
  | [d1, d2] => { results := [.lit (.bool false)], args := [d1, d2] }
  | _ => none }
def FnExactBoundWrongFalsely : Prop := fnExactBoundRow.holds Tryz.pinned (OpenSpec.ofChange fnExactBoundWrong)

/-- 'laws.FnExactReset': WHATEVER THE INPUT: true; the input reads as it did. -/
def fnExactResetSpec : ChangeSpec := { name := "fnExactReset", fn := fun _ => fun
  | [d1, d2] => { results := [.lit (.bool true)], args := [d1, d2] }
  | _ => none }
def fnExactResetRow : OpenClaim := { program := "ytjjldnkhadakcaagreat", sum := "33b3b1f32688e86f30e2bd733057ed16e32e5a4f8a6829b14a34ba23202f82ba", func := "loop.example/s0043/laws.FnExactReset", spec := "fnExactReset", unfollowed := true, recurses := true, apart := false }
def FnExactResetSaid : Prop := fnExactResetRow.holds Tryz.pinned (OpenSpec.ofChange fnExactResetSpec)

/-- ITS FALSE NEIGHBOUR: 'it returns false'. Refute it at one input. -/
def fnExactResetWrong : ChangeSpec := { name := "fnExactReset", fn := fun _ => fun
  | [d1, d2] => { results := [.lit (.bool false)], args := [d1, d2] }
  | _ => none }
def FnExactResetWrongFalsely : Prop := fnExactResetRow.holds Tryz.pinned (OpenSpec.ofChange fnExactResetWrong)

/-- 'laws.FnExactStep': WHATEVER THE INPUT: true; the input reads as it did. -/
def fnExactStepSpec : ChangeSpec := { name := "fnExactStep", fn := fun _ => fun
  | [d1, d2, d3, d4] => { results := [.lit (.bool true)], args := [d1, d2, d3, d4] }
  | _ => none }
def fnExactStepRow : OpenClaim := { program := "ytjjldnkhadakcaagreat", sum := "33b3b1f32688e86f30e2bd733057ed16e32e5a4f8a6829b14a34ba23202f82ba", func := "loop.example/s0043/laws.FnExactStep", spec := "fnExactStep", unfollowed := true, recurses := true, apart := false }
def FnExactStepSaid : Prop := fnExactStepRow.holds Tryz.pinned (OpenSpec.ofChange fnExactStepSpec)

/-- ITS FALSE NEIGHBOUR: 'it returns false'. Refute it at one input. -/
def fnExactStepWrong : ChangeSpec := { name := "fnExactStep", fn := fun _ => fun
  | [d1, d2, d3, d4] => { results := [.lit (.bool false)], args := [d1, d2, d3, d4] }
  | _ => none }
def FnExactStepWrongFalsely : Prop := fnExactStepRow.holds Tryz.pinned (OpenSpec.ofChange fnExactStepWrong)

/- THE SECOND FORM. 'bulk': how many values and letters a reading holds, each counted each time it is reached (what is shared counts as often as it is met; a slice's spare places count too). A statement '..UptoSaid' is the law's where the arguments, and the package variables that the reading takes, are together of bulk at most 1048576: NARROWER than '..Said'. Prove '..Said' where nothing that the law and all that it calls make is longer than what came in: it says more and counts as full. Else prove '..UptoSaid'. A law counts once. -/
mutual
def uptoBulk {H : Type} : DataW H → Nat
  | .lit (.string bytes) => bytes.length + 1
  | .lit _ => 1
  | .nil => 1
  | .ptr d => uptoBulk d + 1
  | .slice elems spare => uptoBulkAll elems + uptoBulkAll spare + 1
  | .agg parts => uptoBulkAll parts + 1
  | .iface _ d => uptoBulk d + 1
  | .map entries => uptoBulkEntries entries + 1
  | .held _ => 1
def uptoBulkAll {H : Type} : List (DataW H) → Nat
  | [] => 0
  | d :: r => uptoBulk d + uptoBulkAll r
def uptoBulkEntries {H : Type} : List (Lit × DataW H) → Nat
  | [] => 0
  | x :: r => uptoBulkEntry x + uptoBulkEntries r
def uptoBulkEntry {H : Type} : Lit × DataW H → Nat
  | (.string bytes, d) => bytes.length + uptoBulk d + 1
  | (_, d) => uptoBulk d + 1
 end
def uptoSmall : (H : Type) → List (DataW H) → Bool := fun _ ds => decide (uptoBulkAll ds ≤ 1048576)
def OpenSpec.upto (s : _root_.Go.ChangeSpec) : _root_.Go.OpenSpec := { _root_.Go.OpenSpec.ofChange s with cond := some uptoSmall }

/-- 'laws.FnExactMachineOK', WHERE WHAT IT READS IS OF BULK AT MOST 1048576: true; the input reads as it did. -/
def fnExactMachineOKUptoRow : OpenClaim := { program := "ytjjldnkhadakcaagreat", sum := "33b3b1f32688e86f30e2bd733057ed16e32e5a4f8a6829b14a34ba23202f82ba", func := "loop.example/s0043/laws.FnExactMachineOK", spec := "fnExactMachineOK", unfollowed := true, recurses := true, apart := false, narrowed := true }
def FnExactMachineOKUptoSaid : Prop := fnExactMachineOKUptoRow.holds Tryz.pinned (OpenSpec.upto fnExactMachineOKSpec)

/-- 'laws.FnExactCells', WHERE WHAT IT READS IS OF BULK AT MOST 1048576: true; the input reads as it did. -/
def fnExactCellsUptoRow : OpenClaim := { program := "ytjjldnkhadakcaagreat", sum := "33b3b1f32688e86f30e2bd733057ed16e32e5a4f8a6829b14a34ba23202f82ba", func := "loop.example/s0043/laws.FnExactCells", spec := "fnExactCells", unfollowed := true, recurses := true, apart := false, narrowed := true }
def FnExactCellsUptoSaid : Prop := fnExactCellsUptoRow.holds Tryz.pinned (OpenSpec.upto fnExactCellsSpec)

/-- 'laws.FnExactBound', WHERE WHAT IT READS IS OF BULK AT MOST 1048576: true; the input reads as it did. -/
def fnExactBoundUptoRow : OpenClaim := { program := "ytjjldnkhadakcaagreat", sum := "33b3b1f32688e86f30e2bd733057ed16e32e5a4f8a6829b14a34ba23202f82ba", func := "loop.example/s0043/laws.FnExactBound", spec := "fnExactBound", unfollowed := true, recurses := true, apart := false, narrowed := true }
def FnExactBoundUptoSaid : Prop := fnExactBoundUptoRow.holds Tryz.pinned (OpenSpec.upto fnExactBoundSpec)

/-- 'laws.FnExactReset', WHERE WHAT IT READS IS OF BULK AT MOST 1048576: true; the input reads as it did. -/
def fnExactResetUptoRow : OpenClaim := { program := "ytjjldnkhadakcaagreat", sum := "33b3b1f32688e86f30e2bd733057ed16e32e5a4f8a6829b14a34ba23202f82ba", func := "loop.example/s0043/laws.FnExactReset", spec := "fnExactReset", unfollowed := true, recurses := true, apart := false, narrowed := true }
def FnExactResetUptoSaid : Prop := fnExactResetUptoRow.holds Tryz.pinned (OpenSpec.upto fnExactResetSpec)

/-- 'laws.FnExactStep', WHERE WHAT IT READS IS OF BULK AT MOST 1048576: true; the input reads as it did. -/
def fnExactStepUptoRow : OpenClaim := { program := "ytjjldnkhadakcaagreat", sum := "33b3b1f32688e86f30e2bd733057ed16e32e5a4f8a6829b14a34ba23202f82ba", func := "loop.example/s0043/laws.FnExactStep", spec := "fnExactStep", unfollowed := true, recurses := true, apart := false, narrowed := true }
def FnExactStepUptoSaid : Prop := fnExactStepUptoRow.holds Tryz.pinned (OpenSpec.upto fnExactStepSpec)

end Rows
end Go.Proofs.YtjjldnkhadakcaaGreat
