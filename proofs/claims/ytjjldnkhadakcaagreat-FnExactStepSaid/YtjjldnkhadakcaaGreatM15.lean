import Derived.Test.YtjjldnkhadakcaaGreatStepAll
namespace Go.Proofs.YtjjldnkhadakcaaGreat
open Go.RowKit
def VarsFew (ks : List DClass) : Prop:=∀ i (hi : i < ks.length),ks[i].ins.length + ks[i].outs.length + ks[i].locs.length ≤ 1048576
theorem classDoes (ks : List DClass) (v : Value) (w : World) (hm : SlAt 7 160 RClass 0 w v ks) (hs : VarsFew ks) : ClassDoes ks v w:=fun i hi w' hb => l3ClassOK_ok ks v i w' (hm.stays RClass_kept hb) hi hs
end Go.Proofs.YtjjldnkhadakcaaGreat
