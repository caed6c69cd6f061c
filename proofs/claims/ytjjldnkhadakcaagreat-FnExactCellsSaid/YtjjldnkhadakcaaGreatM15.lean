import Derived.Test.YtjjldnkhadakcaaGreatM14
namespace Go.Proofs.YtjjldnkhadakcaaGreat
open Go.RowKit

/-- What the reading's bounds must give: a class's variables are not too many. -/
def VarsFew (ks : List DClass) : Prop := ∀ i (hi : i < ks.length), ks[i].ins.length + ks[i].outs.length + ks[i].locs.length ≤ 1048576
theorem classDoes (ks : List DClass) (v : Value) (w : World) (hm : SlAt 7 160 RClass 0 w v ks) (hs : VarsFew ks) : ClassDoes ks v w := fun i hi w' hb => l3ClassOK_ok ks v i w' (hm.stays RClass_kept hb) hi hs
theorem specMachineOK_ok (ks : List DClass) (v : Value) (w : World) (hm : SlAt 7 160 RClass 0 w v ks) (hs : VarsFew ks) : Calls Tryz.prog 9 #[.agg #[v]] w (Ans (.bool (machB ks)) w) :=
  machineOK_of ks v w hm (classDoes ks v w hm hs)
theorem specCells_ok (ks : List DClass) (v : Value) (c : Int) (w : World) (hm : SlAt 7 160 RClass 0 w v ks) (hs : VarsFew ks) (hc : I64 c) : Calls Tryz.prog 13 #[.agg #[v], .int .i64 c] w (Ans (.int .i64 (if hasB ks c = true then (cTo ks ks.length).getD c.toNat 0 else -1)) w) :=
  Cells_of ks v c w hm (classDoes ks v w hm hs) hc
theorem specBound_ok (ks : List DClass) (v : Value) (c : Int) (w : World) (hm : SlAt 7 160 RClass 0 w v ks) (hs : VarsFew ks) (hc : I64 c) : Calls Tryz.prog 15 #[.agg #[v], .int .i64 c] w (Ans (.int .i64 (if hasB ks c = true then (bTo ks ks.length).getD c.toNat 0 else -1)) w) :=
  Bound_of ks v c w hm (classDoes ks v w hm hs) hc

end Go.Proofs.YtjjldnkhadakcaaGreat
