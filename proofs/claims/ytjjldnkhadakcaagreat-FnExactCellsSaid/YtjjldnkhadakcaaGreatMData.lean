import Derived.Test.YtjjldnkhadakcaaGreatSz
import Derived.Test.YtjjldnkhadakcaaGreatFill
namespace Go.Proofs.YtjjldnkhadakcaaGreat
open Go.RowKit

structure DSlot where
  name : ByteArray
  type : Int
structure DStm where
  kind : Int
  name : ByteArray
  at_ : Int
  outs : List ByteArray
  code : List DItem
  args : List (List DItem)
structure DClass where
  name : ByteArray
  ins : List DSlot
  outs : List DSlot
  locs : List ByteArray
  mems : List Int
  insts : List Int
  body : List DStm

def RSlot (_ : Nat) (_ : World) (cs : List Value) (t : DSlot) : Prop := cs = [.string t.name, .int .i64 t.type] ∧ Len t.name.size ∧ I64 t.type
def RStm (lo : Nat) (w : World) (cs : List Value) (t : DStm) : Prop := ∃ o c a, cs = [.int .i64 t.kind, .string t.name, .int .i64 t.at_, o, c, a] ∧ Len t.name.size ∧ I64 t.kind ∧ I64 t.at_ ∧ SlAt 1 16 RStr lo w o t.outs ∧ SlAt 3 32 RItem lo w c t.code ∧ SlAt 1 24 RItems lo w a t.args
def RClass (lo : Nat) (w : World) (cs : List Value) (k : DClass) : Prop := ∃ i o l m n b, cs = [.string k.name, i, o, l, m, n, b] ∧ Len k.name.size ∧ SlAt 2 24 RSlot lo w i k.ins ∧ SlAt 2 24 RSlot lo w o k.outs ∧ SlAt 1 16 RStr lo w l k.locs ∧ SlAt 1 8 RInt lo w m k.mems ∧ SlAt 1 8 RInt lo w n k.insts ∧ SlAt 6 104 RStm lo w b k.body

theorem RSlot_kept : KeptBy RSlot := fun _ _ _ _ _ _ h => h
theorem RSlot_lowers : Lowers RSlot := fun _ _ _ _ _ _ h => h
theorem RStm_kept : KeptBy RStm := fun _ _ _ _ _ hb ⟨o, c, a, h1, h2, h3, h4, h5, h6, h7⟩ => ⟨o, c, a, h1, h2, h3, h4, h5.kept RStr_kept hb, h6.kept RItem_kept hb, h7.kept RItems_kept hb⟩
theorem RStm_lowers : Lowers RStm := fun _ _ _ _ _ hb ⟨o, c, a, h1, h2, h3, h4, h5, h6, h7⟩ => ⟨o, c, a, h1, h2, h3, h4, h5.lower RStr_lowers hb, h6.lower RItem_lowers hb, h7.lower RItems_lowers hb⟩
theorem RClass_kept : KeptBy RClass := fun _ _ _ _ _ hb ⟨i, o, l, m, n, b, h1, h2, h3, h4, h5, h6, h7, h8⟩ => ⟨i, o, l, m, n, b, h1, h2, h3.kept RSlot_kept hb, h4.kept RSlot_kept hb, h5.kept RStr_kept hb, h6.kept RInt_kept hb, h7.kept RInt_kept hb, h8.kept RStm_kept hb⟩
theorem RClass_lowers : Lowers RClass := fun _ _ _ _ _ hb ⟨i, o, l, m, n, b, h1, h2, h3, h4, h5, h6, h7, h8⟩ => ⟨i, o, l, m, n, b, h1, h2, h3.lower RSlot_lowers hb, h4.lower RSlot_lowers hb, h5.lower RStr_lowers hb, h6.lower RInt_lowers hb, h7.lower RInt_lowers hb, h8.lower RStm_lowers hb⟩

def wSlot (t : DSlot) : Nat := t.name.size
def wStm (t : DStm) : Nat := t.name.size + wSum wStr t.outs + wSum wItem t.code + wSum (wSum wItem) t.args
def wClass (k : DClass) : Nat := k.name.size + wSum wSlot k.ins + wSum wSlot k.outs + wSum wStr k.locs + k.mems.length + k.insts.length + wSum wStm k.body

end Go.Proofs.YtjjldnkhadakcaaGreat
