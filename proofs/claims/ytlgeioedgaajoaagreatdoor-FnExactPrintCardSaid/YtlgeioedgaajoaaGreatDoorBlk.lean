import Derived.Test.YtlgeioedgaajoaaGreatDoorOwn
namespace Go.Proofs.YtlgeioedgaajoaaGreatDoor
open Go.RowKit
set_option linter.unusedSimpArgs false
set_option linter.unusedVariables false

/-! ### A row of the call's own, by its block -/
def BlkAt (w : World) (g : Nat) (e : TypeId) (cs : Array Value) : Prop := w.heap[g]? = some (.cells cs e (0, 0))
theorem BlkAt.lt {w : World} {g : Nat} {e : TypeId} {cs : Array Value} (h : BlkAt w g e cs) : g < w.heap.size := (Array.getElem?_eq_some_iff.1 h).1
theorem BlkAt.cell {w : World} {g : Nat} {e : TypeId} {cs : Array Value} (h : BlkAt w g e cs) {i : Nat} {v : Value} (hi : cs[i]? = some v) : w.cell? ⟨g, i, none⟩ = some v := by
  unfold BlkAt at h
  simp [World.cell?, h, hi]
theorem BlkAt.free {w : World} {g : Nat} {e : TypeId} {cs : Array Value} (h : BlkAt w g e cs) (i : Nat) : w.frozen? ⟨g, i, none⟩ = false := by
  unfold BlkAt at h
  simp [World.frozen?, h]
theorem BlkAt.below {w w' : World} {g B : Nat} {e : TypeId} {cs : Array Value} (h : BlkAt w g e cs) (hb : Below B w w') (hg : g < B) : BlkAt w' g e cs := (hb.block g hg).trans h
theorem BlkAt.set {w : World} {g : Nat} {e : TypeId} {cs : Array Value} (h : BlkAt w g e cs) (i : Nat) (v : Value) : BlkAt (w.setCell ⟨g, i, none⟩ v) g e (cs.setIfInBounds i v) := by
  unfold BlkAt at *
  simp only [World.setCell, Array.getElem?_modify, if_true, h, Option.map_some]
  simp

theorem wpList_make_row {P : Program} (w : World) {ops : Array Oper} {rest : List Oper} {o : Oper} {a : Act} {Q : Exit → Act → World → Prop}
    (hg : o.guard = none) (l c : Operand) (t : TypeId) (hop : o.op = Op.makeSlice t l c)
    (e : TypeId) (z : Value) (by' : Nat) (h1 : P.underlying t = some (.slice e)) (h2 : (P.info? e).map (fun i => (i.zero, i.size, i.bytes)) = some (some z, 1, by')) (h3 : by' ≤ 100)
    (L : Int) (n : Nat) (hl : a.eval l = .int .i64 L) (hc : a.eval c = .int .i64 L) (hL : L = (n : Int)) (hn : n ≤ 1000000)
    (hK : ∀ w' cs, BlkAt w' w.heap.size e cs → cs.size = n → Below w.heap.size w w' → wpList P ops Q rest (a.put o.dst (.slice (some ⟨w.heap.size, 0, none⟩) n n)) w') :
    wpList P ops Q (o :: rest) a w := by
  refine wpList_plain hg fun K hK' => ?_
  obtain ⟨i, hi, hz, hs, hb⟩ := info_parts h2
  have hb' : (i.bytes : Int) * (n : Int) ≤ 281474976710656 := by
    have h : i.bytes * n ≤ 100 * 1000000 := Nat.mul_le_mul (by omega) hn
    have h' : ((i.bytes * n : Nat) : Int) ≤ 281474976710656 := by omega
    rwa [Int.natCast_mul] at h'
  have hr := run_make (P := P) w t e i z h1 hi hz .i64 .i64 n n (by omega) (Int.le_refl _) hb' (by omega)
  simp only [Int.toNat_natCast] at hr
  subst hL
  unfold Oper.wp
  simp [execOp, hop, hl, hc, hr, Result.andThen]
  refine hK' _ _ (hK _ (madeCells z.cells (n * i.size)) ?_ ?_ ((Below.refl _ _).alloc (Nat.le_refl _) _))
  · show (w.heap.push _)[w.heap.size]? = _
    rw [Array.getElem?_push_size]
  · rw [size_madeCells, hs, Nat.mul_one]

theorem blk_box (w : World) (cs : Array Value) (e : TypeId) : BlkAt (w.alloc (.cells cs e)) w.heap.size e cs := by
  show (w.heap.push _)[w.heap.size]? = _
  rw [Array.getElem?_push_size]

theorem BlkAt.set3 {w : World} {g : Nat} {e : TypeId} {a b c x y z : Value} (h : BlkAt w g e #[a, b, c]) : BlkAt (((w.setCell ⟨g, 0, none⟩ x).setCell ⟨g, 1, none⟩ y).setCell ⟨g, 2, none⟩ z) g e #[x, y, z] := by
  have := ((h.set 0 x).set 1 y).set 2 z
  simpa using this

end Go.Proofs.YtlgeioedgaajoaaGreatDoor
