import Derived.Test.YtlgeioedgaajoaaGreatDoorRows
import Derived.Test.YtlgeioedgaajoaaGreatDoorTI2
import Derived.Lib.LaidTab
import Derived.MakeChecks
import Derived.OpenShut
namespace Go.Proofs.YtlgeioedgaajoaaGreatDoor
open Go.ChangeShapes Go.WideShapes Go.RowKit
set_option linter.unusedSimpArgs false
set_option linter.unusedVariables false

/-! ### What the laid variables give -/
abbrev laid4 : List (String × DataW Unit) := Rows.fnExactPrintRow.laid
theorem gOps : Tryz.prog.globalNamed "loop.example/s0043/impl.operators" = some 1 := by kernel_rfl
theorem tOps : (Tryz.prog.globals[1]?).map (·.type) = some 159 := by kernel_rfl
theorem tPow : (Tryz.prog.globals[2]?).map (·.type) = some 168 := by kernel_rfl
theorem cOp : Tryz.prog.cellsOf 158 = 3 := by kernel_rfl
theorem cStr : Tryz.prog.cellsOf 9 = 1 := by kernel_rfl
theorem cInt : Tryz.prog.cellsOf 3 = 1 := by kernel_rfl
theorem cOps : Tryz.prog.cellsOf 159 = 42 := by kernel_rfl
theorem cU64 : Tryz.prog.cellsOf 162 = 1 := by kernel_rfl
theorem cPow : Tryz.prog.cellsOf 168 = 20 := by kernel_rfl

theorem lst3 {α : Type} {l : List α} (h : l.length = 3) : ∃ a b c, l = [a, b, c] := by
  match l, h with
  | [a, b, c], _ => exact ⟨a, b, c, rfl⟩

def opD (x : ByteArray × Int × Int) : DataW Unit := .agg [.lit (.string x.1.data.toList), .lit (.int .i64 x.2.1), .lit (.int .i64 x.2.2)]

theorem op_elem {enc : TypeId × Value → Unit} {w : World} {base : Nat} {sp : Nat → Bool} {held : Bool} {fuel : Nat} {cs : List Value} {y : DataW Unit × List MemPlace} (x : ByteArray × Int × Int)
    (h : DataW.trod enc Tryz.prog w base sp held fuel 158 cs = some y) (hy : y.1 = opD x) : cs = opCs x := by
  obtain ⟨xs, n, _, hx, hl, hyl, hfl⟩ := DataW.trod_struct Tryz.underlying158 h
  rw [cOp] at hl
  obtain ⟨c0, c1, c2, rfl⟩ := lst3 hl
  obtain ⟨x0, x1, x2, rfl⟩ := lst3 (show xs.length = 3 from hyl)
  have f0 : DataW.trod enc Tryz.prog w base sp held n 9 (([c0, c1, c2].drop 0).take (Tryz.prog.cellsOf 9)) = some x0 := hfl 0 _ rfl
  have f1 : DataW.trod enc Tryz.prog w base sp held n 3 (([c0, c1, c2].drop 1).take (Tryz.prog.cellsOf 3)) = some x1 := hfl 1 _ rfl
  have f2 : DataW.trod enc Tryz.prog w base sp held n 3 (([c0, c1, c2].drop 2).take (Tryz.prog.cellsOf 3)) = some x2 := hfl 2 _ rfl
  rw [cStr] at f0
  rw [cInt] at f1 f2
  replace f0 : DataW.trod enc Tryz.prog w base sp held n 9 [c0] = some x0 := f0
  replace f1 : DataW.trod enc Tryz.prog w base sp held n 3 [c1] = some x1 := f1
  replace f2 : DataW.trod enc Tryz.prog w base sp held n 3 [c2] = some x2 := f2
  obtain ⟨s, e0, g0, _⟩ := DataW.trod_string Tryz.underlying9 f0
  obtain ⟨k1, e1, g1, _⟩ := DataW.trod_int Tryz.underlying3 f1
  obtain ⟨k2, e2, g2, _⟩ := DataW.trod_int Tryz.underlying3 f2
  subst g0 g1 g2
  subst hx
  simp only [opD, List.map_cons, List.map_nil, DataW.agg.injEq, List.cons.injEq, DataW.lit.injEq, Lit.string.injEq, Lit.int.injEq, true_and, and_true] at hy
  obtain ⟨q0, q1, q2⟩ := hy
  have es : s = x.1 := ByteArray.ext (Array.ext' q0)
  subst es q1 q2
  have e0' : c0 = _ := (List.cons.inj e0).1
  have e1' : c1 = _ := (List.cons.inj e1).1
  have e2' : c2 = _ := (List.cons.inj e2).1
  rw [e0', e1', e2']
  rfl

theorem chunks {α β : Type} (f : α → List β) (hf : ∀ x, (f x).length = 3) : ∀ (tab : List α) (l : List β), l.length = tab.length * 3 → (∀ i (h : i < tab.length), (l.drop (i * 3)).take 3 = f tab[i]) → l = tab.flatMap f
  | [], l, hl, _ => by simpa using hl
  | x :: tab, l, hl, h => by
    have h0 := h 0 (by simp)
    simp only [Nat.zero_mul, List.drop_zero, List.getElem_cons_zero] at h0
    have ih := chunks f hf tab (l.drop 3) (by simp at hl ⊢; omega) (fun i hi => by
      have := h (i + 1) (by simpa using hi)
      rw [List.drop_drop]
      simpa [Nat.add_mul, Nat.add_comm] using this)
    rw [List.flatMap_cons, ← h0, ← ih, List.take_append_drop]

theorem ops_data : (Rows.laid_loop_example_s0043_impl_operators : DataW Unit) = .agg (opTab.map opD) := rfl
theorem pow_data : (Rows.laid_internal_strconv_uint64pow10 : DataW Unit) = Lib.tabData .u64 Lib.pow10Tab := rfl

theorem ops_cells {enc : TypeId × Value → Unit} {w : World} {base : Nat} {sp : Nat → Bool} {held : Bool} {fuel : Nat} {cs : List Value} {p : List MemPlace}
    (h : DataW.trod enc Tryz.prog w base sp held fuel 159 cs = some (.agg (opTab.map opD), p)) : cs = opCells := by
  obtain ⟨xs, m, _, hx, hl, hn, hel⟩ := DataW.trod_array Tryz.underlying159 h
  rw [cOps] at hl
  rw [cOp] at hel
  simp only [Prod.mk.injEq, DataW.agg.injEq] at hx
  refine chunks opCs (fun _ => rfl) opTab cs hl (fun i hi => ?_)
  have hi' : i < 14 := hi
  have h1 := hel i hi'
  have hix : i < xs.length := by omega
  rw [List.getElem?_eq_getElem hix] at h1
  refine op_elem opTab[i] h1 ?_
  have h2 := congrArg (fun l => l[i]?) hx.1
  simp only [List.getElem?_map, List.getElem?_eq_getElem hix, List.getElem?_eq_getElem hi, Option.map_some, Option.some.injEq] at h2
  exact h2.symm

theorem env_of_laid {W : World} (h : laidMetH Tryz.prog laid4 W) : Env W := by
  rw [MakeChecks.laidMetH_plain _ _ _ (by kernel_rfl)] at h
  obtain ⟨ps, ⟨g0, t0, cs0, f0, p0, q0, hg0, ht0, hv0, hd0, ⟨g1, t1, cs1, f1, p1, q1, hg1, ht1, hv1, hd1, ⟨g2, t2, cs2, f2, p2, q2, hg2, ht2, hv2, hd2, ⟨g3, t3, cs3, f3, p3, q3, hg3, ht3, hv3, hd3, _, _⟩, _⟩, _⟩, _⟩, _, _⟩ := h
  obtain rfl := Option.some.inj (gPow.symm.trans hg2)
  obtain rfl := Option.some.inj (tPow.symm.trans ht2)
  obtain rfl := Option.some.inj (gOps.symm.trans hg3)
  obtain rfl := Option.some.inj (tOps.symm.trans ht3)
  rw [ops_data] at hd3
  rw [pow_data] at hd2
  have e3 := ops_cells hd3
  refine ⟨fun j v hv => ?_, ?_, ?_⟩
  · have := World.var?_cell hg3 hv3 j
    rw [Nat.zero_add, this]
    rw [← e3] at hv
    simpa using hv
  · unfold Lib.TabIs
    rw [hv2, ← Lib.cells_of_tab Tryz.underlying168 Tryz.underlying162 cU64 cPow hd2]
  · have hv2' := hv2
    simp only [World.var?, hg2, Option.bind_some] at hv2'
    rcases Nat.lt_or_ge 2 W.heap.size with h | h
    · exact h
    · rw [Array.getElem?_eq_none h] at hv2'
      cases hv2'

end Go.Proofs.YtlgeioedgaajoaaGreatDoor
