import Derived.Test.YtnfgcklppaknbaaData
import Derived.Maps.OwnSet
/- A map with string keys that the call has made, told as a function from names to values. Nothing of the program is named here. -/
namespace Go.Proofs.Ytnfgcklppaknbaa
open Go.RowKit
open Go.Maps (Keyed IsMap)
set_option linter.unusedVariables false

/-- Every value reads as itself. -/
def tokR (v : Value) : Option (DataW Value × List MemPlace) := some (.held v, [])
/-- Block b is a map of at most n entries; it has f s at the name s, and z stands for 'none there'. -/
def MapF (P : Program) (k : TypeId) (z : Value) (w : World) (b n : Nat) (f : ByteArray → Value) : Prop :=
  ∃ D, w.ownsMap P k tokR b n D ∧ ∀ s : ByteArray, D.atKey (.string s.data.toList) (.held z) = .held (f s)

variable {P : Program} {k : TypeId} {z : Value} {w : World} {b n : Nat} {f : ByteArray → Value}

theorem MapF.made (w : World) : MapF P k z (w.alloc (.map #[] 0)) w.heap.size 0 (fun _ => z) :=
  ⟨.map [], World.ownsMap_made w P k tokR, fun s => rfl⟩
theorem MapF.lt (h : MapF P k z w b n f) : b < w.heap.size := by
  obtain ⟨D, h, _⟩ := h
  exact h.lt
theorem MapF.nocell (h : MapF P k z w b n f) (j : Nat) : w.cell? ⟨b, j, none⟩ = none := by
  obtain ⟨D, ⟨es, clock, h1, _⟩, _⟩ := h
  simp [World.cell?, h1]
theorem MapF.block {w' : World} (h : MapF P k z w b n f) (hb : w'.heap[b]? = w.heap[b]?) : MapF P k z w' b n f := by
  obtain ⟨D, ⟨es, clock, h1, h2, h3, h4⟩, h5⟩ := h
  exact ⟨D, ⟨es, clock, hb.trans h1, h2, h3, h4⟩, h5⟩
theorem MapF.below {w' : World} (h : MapF P k z w b n f) (hb : Below w.heap.size w w') : MapF P k z w' b n f := h.block (hb.block b h.lt)
theorem MapF.mono {n' : Nat} (h : MapF P k z w b n f) (hn : n ≤ n') : MapF P k z w b n' f := by
  obtain ⟨D, h, h5⟩ := h
  exact ⟨D, h.mono hn, h5⟩

theorem MapF.look {t e : TypeId} (h : MapF P k z w b n f) (hk : P.underlying k = some .string) (ht : P.underlying t = some (.map k e)) (hz : (zeroValue e).run P w = .ok z w) {s : ByteArray} (hs : s.size ≤ maxLen) :
    (Instr.lookup t (.map (some b)) (.string s) false).run P w = .ok (f s) w := by
  obtain ⟨D, h, h5⟩ := h
  obtain ⟨v, ps, hrun, hv⟩ := h.lookup (Maps.string_keyed hk) ht hz (zd := .held z) (zp := []) rfl (WideMaps.keyOf_string_mk hk hs)
  rw [h5 s] at hv
  unfold tokR at hv
  simp only [Option.some.injEq, Prod.mk.injEq, DataW.held.injEq] at hv
  rw [hrun, hv.1]

theorem bytes_eq {s x : ByteArray} (h : s.data.toList = x.data.toList) : s = x := by
  cases s; cases x
  simp only [ByteArray.mk.injEq]
  exact Array.toList_inj.1 h

theorem MapF.store {t e : TypeId} (h : MapF P k z w b n f) (hk : P.underlying k = some .string) (ht : P.underlying t = some (.map k e)) (hn : n < maxLen) {s : ByteArray} (hs : s.size ≤ maxLen) (v : Value) :
    ∃ w' f', (Instr.mapUpdate t (.map (some b)) (.string s) v).run P w = .ok () w' ∧ MapF P k z w' b (n + 1) f' ∧ f' s = v ∧ (∀ x, x ≠ s → f' x = f x) ∧ w.grownBy w' (some b) := by
  obtain ⟨D, h, h5⟩ := h
  obtain ⟨w', hrun, ho, hg⟩ := h.update (Maps.string_keyed hk) ht hn (WideMaps.keyOf_string_mk hk hs) (val := v) (d := .held v) (ps := []) rfl
  refine ⟨w', fun x => if x.data.toList = s.data.toList then v else f x, hrun, ⟨_, ho, fun x => ?_⟩, ?_, fun x hx => ?_, hg⟩
  · by_cases hx : x.data.toList = s.data.toList
    · show _ = DataW.held (if _ then _ else _)
      rw [if_pos hx, hx]
      exact Maps.atKey_put_same h.isMap ((Maps.string_keyed hk).key (WideMaps.keyOf_string_mk hk hs)) _ _
    · show _ = DataW.held (if _ then _ else _)
      rw [if_neg hx, Maps.atKey_put_other (by simpa using hx)]
      exact h5 x
  · simp
  · exact if_neg (fun h => hx (bytes_eq h))

/-- 'm[s]' at the operation. -/
theorem wpList_lookF {ops : Array Oper} {rest : List Oper} {o : Oper} {a : Act} {Q : Exit → Act → World → Prop}
    (hg : o.guard = none) (m x : Operand) (t e : TypeId) (hop : o.op = Op.lookup t m x false) (hk : P.underlying k = some .string) (ht : P.underlying t = some (.map k e)) (hz : (zeroValue e).run P w = .ok z w)
    (hm : a.eval m = .map (some b)) (hM : MapF P k z w b n f) (s : ByteArray) (hx : a.eval x = .string s) (hs : s.size ≤ maxLen) (hK : wpList P ops Q rest (a.put o.dst (f s)) w) :
    wpList P ops Q (o :: rest) a w := by
  refine wpList_plain hg fun K' hK' => ?_
  unfold Oper.wp
  simp [execOp, hop, hm, hx, hM.look hk ht hz hs, Result.andThen]
  exact hK' _ _ hK

end Go.Proofs.Ytnfgcklppaknbaa
