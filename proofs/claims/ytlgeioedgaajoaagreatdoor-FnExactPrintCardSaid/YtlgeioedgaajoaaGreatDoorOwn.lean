import Derived.Test.YtlgeioedgaajoaaGreatDoorFill
import Derived.Test.YtlgeioedgaajoaaGreatDoorProg
import Derived.WalkLawsBesides
import Derived.Deep.AppendSrc
import Derived.OwnWalk
namespace Go.Proofs.YtlgeioedgaajoaaGreatDoor
open Go.RowKit
set_option linter.unusedSimpArgs false
set_option linter.unusedVariables false

/-- A row of one's own, one cell an element. -/
def OwnInts (w : World) (base g cap : Nat) (xs : List Int) : Prop := w.ownsRow base 3 1 (.slice (some ⟨g, 0, none⟩) xs.length cap) xs.length (xs.map (Value.int .i64))

theorem OwnInts.below {w w' : World} {base g cap : Nat} {xs : List Int} (h : OwnInts w base g cap xs) (hb : Below w.heap.size w w') : OwnInts w' base g cap xs := by
  have hlt := (World.ownsRow.lt h g rfl).2
  obtain ⟨h1, h2⟩ := h
  refine ⟨h1, ?_⟩
  rcases h2 with h2 | ⟨g', cap', cur, hv, hg, hh, r⟩
  · exact Or.inl h2
  · simp only [Value.slice.injEq, Option.some.injEq, Addr.mk.injEq] at hv
    obtain ⟨⟨rfl, _⟩, _, rfl⟩ := hv
    exact Or.inr ⟨g, cap, cur, rfl, hg, (hb.block g hlt).trans hh, r⟩
theorem OwnInts.cell {w : World} {base g cap : Nat} {xs : List Int} (h : OwnInts w base g cap xs) (i : Nat) (hi : i < xs.length) : w.cell? ⟨g, i, none⟩ = some ((Value.int .i64) xs[i]) := by
  have := World.ownsRow.cells h (g := g) rfl i ((Value.int .i64) xs[i]) (by simp [hi])
  rw [Addr.add_lit, Nat.zero_add] at this
  exact this
theorem OwnInts.lt {w : World} {base g cap : Nat} {xs : List Int} (h : OwnInts w base g cap xs) : g < w.heap.size := (World.ownsRow.lt h g rfl).2
theorem OwnInts.base {w : World} {base g cap : Nat} {xs : List Int} (h : OwnInts w base g cap xs) : base ≤ g := (World.ownsRow.lt h g rfl).1
theorem OwnInts.start (w : World) (base : Nat) (hb : base ≤ w.heap.size) : OwnInts (w.alloc (.cells #[] 3)) base w.heap.size 0 [] :=
  ⟨rfl, Or.inr ⟨_, _, #[], rfl, hb, Deep.blk_alloc_new _ _, Nat.le_refl _, Nat.zero_le _, rfl, rfl⟩⟩
theorem OwnInts.at {w : World} {base g cap : Nat} {xs : List Int} (h : OwnInts w base g cap xs) (hR : ∀ x, x ∈ xs → RInt 0 w [(Value.int .i64) x] x) (hn : xs.length * 8 ≤ 140737488355328) : SlAt 1 8 RInt 0 w (.slice (some ⟨g, 0, none⟩) xs.length cap) xs := by
  have hcap : xs.length ≤ cap := by
    obtain ⟨_, hh⟩ := h
    rcases hh with ⟨hh, _⟩ | ⟨g1, cap1, cur, hv, _, _, h2, _⟩
    · cases hh
    · simp only [Value.slice.injEq] at hv
      obtain ⟨_, _, rfl⟩ := hv
      exact h2
  refine ⟨_, cap, rfl, ⟨hn, hcap⟩, by unfold Len; omega, fun i hi => ⟨g, 0, [(Value.int .i64) xs[i]], rfl, Nat.zero_le _, h.lt, rfl, fun j hj => ?_, hR _ (List.getElem_mem hi)⟩⟩
  have hj0 : j = 0 := by simpa using hj
  subst hj0
  simp only [Nat.zero_add, Nat.mul_one, Nat.add_zero, List.getElem_cons_zero]
  exact h.cell i hi

theorem info_ownInts : (Tryz.prog.info? 3).map (fun i => (i.zero, i.size, i.bytes)) = some (some (.int .i64 0), 1, 8) := by kernel_rfl

/-- 'append(xs, x)' onto a row of one's own: the one element lies at the head of the block eb. -/
theorem wpList_append_oneInts (w : World) {ops : Array Oper} {rest : List Oper} {o : Oper} {a : Act} {Q : Exit → Act → World → Prop} (hgd : o.guard = none) (s x : Operand)
    (ho : o.op = .call { callee := .builtin .append, args := #[s, x], argTypes := #[88, 88] })
    (base g cap : Nat) (xs : List Int) (hs : a.eval s = .slice (some ⟨g, 0, none⟩) xs.length cap) (hown : OwnInts w base g cap xs)
    (eb : Nat) (y : Int) (hx : a.eval x = .slice (some ⟨eb, 0, none⟩) 1 1) (hy : w.cell? ⟨eb, 0, none⟩ = some ((Value.int .i64) y)) (hb : (xs.length + 1) * 8 ≤ 140737488355328) (hbase : base ≤ w.heap.size)
    (h : ∀ g' cap' w', OwnInts w' base g' cap' (xs ++ [y]) → w.grownBy w' (some g) → wpList Tryz.prog ops Q rest (a.put o.dst (.slice (some ⟨g', 0, none⟩) (xs.length + 1) cap')) w') : wpList Tryz.prog ops Q (o :: rest) a w := by
  obtain ⟨i, hi, hz0, hz1, hz2⟩ := info_parts info_ownInts
  refine wpList_append_own w hgd s x 88 ho base 3 i _ 1 8 Tryz.underlying88 hi hz0 hz1 hz2 rfl (by decide) _ xs.length (xs.map (Value.int .i64)) hs hown _ 1 1 [(Value.int .i64) y] hx rfl (fun j u hu => ?_) (fun u hu => ?_) (by simp [maxLen]; omega) hb hbase ?_
  · cases j with
    | zero =>
      simp at hu
      subst hu
      rw [Addr.add_lit, Nat.add_zero]
      exact hy
    | succ j => simp at hu
  · simp at hu
    subst hu
    rfl
  · intro v' w' h1 h2 h3
    obtain ⟨hl, hh⟩ := h1
    rcases hh with ⟨rfl, _⟩ | ⟨g', cap', cur, rfl, hr⟩
    · have := h3.1 rfl
      cases this.1
    · refine h g' cap' w' ⟨by simp, Or.inr ⟨g', cap', cur, by simp, ?_⟩⟩ h2
      simpa using hr

/-- 'append(xs, ys...)' onto a row of one's own. -/
theorem wpList_append_allInts (w : World) {ops : Array Oper} {rest : List Oper} {o : Oper} {a : Act} {Q : Exit → Act → World → Prop} (hgd : o.guard = none) (s x : Operand)
    (ho : o.op = .call { callee := .builtin .append, args := #[s, x], argTypes := #[88, 88] })
    (base g cap : Nat) (xs : List Int) (hs : a.eval s = .slice (some ⟨g, 0, none⟩) xs.length cap) (hown : OwnInts w base g cap xs)
    (xv : Value) (hx : a.eval x = xv) (ys : List Int) (hsl : SlAt 1 8 RInt 0 w xv ys) (hb : (xs.length + ys.length) * 8 ≤ 140737488355328) (hbase : base ≤ w.heap.size)
    (h : ∀ g' cap' w', OwnInts w' base g' cap' (xs ++ ys) → w.grownBy w' (some g) → wpList Tryz.prog ops Q rest (a.put o.dst (.slice (some ⟨g', 0, none⟩) (xs.length + ys.length) cap')) w') : wpList Tryz.prog ops Q (o :: rest) a w := by
  obtain ⟨i, hi, hz0, hz1, hz2⟩ := info_parts info_ownInts
  obtain ⟨ax, cx, rfl, _, hn, hel⟩ := hsl
  cases ax with
  | none =>
    have hy : ys = [] := by
      cases ys with
      | nil => rfl
      | cons y ys =>
        obtain ⟨b, o, cs, hbo, _⟩ := hel 0 (by simp)
        cases hbo
    subst hy
    refine wpList_plain hgd fun K hK => ?_
    have hcap : xs.length ≤ cap := by
      obtain ⟨_, hh⟩ := hown
      rcases hh with ⟨hh, _⟩ | ⟨g1, cap1, cur, hv, _, _, h2, _⟩
      · cases hh
      · simp only [Value.slice.injEq] at hv
        obtain ⟨_, _, rfl⟩ := hv
        exact h2
    have hrun := run_append_room_src (P := Tryz.prog) w 88 88 o.type 3 i Tryz.underlying88 hi g 0 xs.length cap (.slice none 0 cx) 0 [] (Src.ofNil w Tryz.underlying88 cx) (by omega) (fun j hj => by simp at hj) (fun j hj => by simp at hj)
    unfold Oper.wp execOp
    simp only [ho, resolve, invoke, builtin, Sem.run_bind, Sem.run_pure, Result.andThen_ok, List.map_toArray, List.map_cons, List.map_nil, hs, hx, hrun, List.length_nil]
    refine hK _ _ ?_
    have hsc : w.setCells g (0 + xs.length * i.size) [] = w := by simp [World.setCells]
    rw [hsc]
    have := h g cap w (by simpa using hown) (World.grownBy.refl w _)
    simpa using this
  | some ad =>
    have hcellA : ∀ j u, (ys.map (Value.int .i64))[j]? = some u → w.cell? (ad.add j) = some u := fun j u hu => by
      have hj : j < ys.length := by
        have := (List.getElem?_eq_some_iff.1 hu).1
        simpa using this
      obtain ⟨b, oo, cs, hbo, _, _, hl, hc, hR⟩ := hel j hj
      simp only [Option.some.injEq] at hbo
      subst hbo
      obtain ⟨rfl, _⟩ := hR
      have c0 := hc 0 (by simp)
      simp only [Nat.mul_one, Nat.add_zero, List.getElem_cons_zero] at c0
      rw [Addr.add_lit, c0]
      simp [hj] at hu
      rw [hu]
    refine wpList_append_own w hgd s x 88 ho base 3 i _ 1 8 Tryz.underlying88 hi hz0 hz1 hz2 rfl (by decide) _ xs.length (xs.map (Value.int .i64)) hs hown ad ys.length cx (ys.map (Value.int .i64)) hx (by simp) hcellA (fun u hu => ?_) (by simp [maxLen]; omega) hb hbase ?_
    · obtain ⟨y, _, rfl⟩ := List.mem_map.1 hu
      rfl
    · intro v' w' h1 h2 h3
      obtain ⟨hl, hh⟩ := h1
      rcases hh with ⟨rfl, _⟩ | ⟨g', cap', cur, rfl, hr⟩
      · have := h3.1 rfl
        cases this.1
      · refine h g' cap' w' ⟨by simp, Or.inr ⟨g', cap', cur, by simp, ?_⟩⟩ h2
        simpa using hr

/-- A row of one's own, one cell an element. -/
def OwnStrs (w : World) (base g cap : Nat) (xs : List ByteArray) : Prop := w.ownsRow base 9 1 (.slice (some ⟨g, 0, none⟩) xs.length cap) xs.length (xs.map Value.string)

theorem OwnStrs.below {w w' : World} {base g cap : Nat} {xs : List ByteArray} (h : OwnStrs w base g cap xs) (hb : Below w.heap.size w w') : OwnStrs w' base g cap xs := by
  have hlt := (World.ownsRow.lt h g rfl).2
  obtain ⟨h1, h2⟩ := h
  refine ⟨h1, ?_⟩
  rcases h2 with h2 | ⟨g', cap', cur, hv, hg, hh, r⟩
  · exact Or.inl h2
  · simp only [Value.slice.injEq, Option.some.injEq, Addr.mk.injEq] at hv
    obtain ⟨⟨rfl, _⟩, _, rfl⟩ := hv
    exact Or.inr ⟨g, cap, cur, rfl, hg, (hb.block g hlt).trans hh, r⟩
theorem OwnStrs.cell {w : World} {base g cap : Nat} {xs : List ByteArray} (h : OwnStrs w base g cap xs) (i : Nat) (hi : i < xs.length) : w.cell? ⟨g, i, none⟩ = some (Value.string xs[i]) := by
  have := World.ownsRow.cells h (g := g) rfl i (Value.string xs[i]) (by simp [hi])
  rw [Addr.add_lit, Nat.zero_add] at this
  exact this
theorem OwnStrs.lt {w : World} {base g cap : Nat} {xs : List ByteArray} (h : OwnStrs w base g cap xs) : g < w.heap.size := (World.ownsRow.lt h g rfl).2
theorem OwnStrs.base {w : World} {base g cap : Nat} {xs : List ByteArray} (h : OwnStrs w base g cap xs) : base ≤ g := (World.ownsRow.lt h g rfl).1
theorem OwnStrs.start (w : World) (base : Nat) (hb : base ≤ w.heap.size) : OwnStrs (w.alloc (.cells #[] 9)) base w.heap.size 0 [] :=
  ⟨rfl, Or.inr ⟨_, _, #[], rfl, hb, Deep.blk_alloc_new _ _, Nat.le_refl _, Nat.zero_le _, rfl, rfl⟩⟩
theorem OwnStrs.at {w : World} {base g cap : Nat} {xs : List ByteArray} (h : OwnStrs w base g cap xs) (hR : ∀ x, x ∈ xs → RStr 0 w [Value.string x] x) (hn : xs.length * 16 ≤ 140737488355328) : SlAt 1 16 RStr 0 w (.slice (some ⟨g, 0, none⟩) xs.length cap) xs := by
  have hcap : xs.length ≤ cap := by
    obtain ⟨_, hh⟩ := h
    rcases hh with ⟨hh, _⟩ | ⟨g1, cap1, cur, hv, _, _, h2, _⟩
    · cases hh
    · simp only [Value.slice.injEq] at hv
      obtain ⟨_, _, rfl⟩ := hv
      exact h2
  refine ⟨_, cap, rfl, ⟨hn, hcap⟩, by unfold Len; omega, fun i hi => ⟨g, 0, [Value.string xs[i]], rfl, Nat.zero_le _, h.lt, rfl, fun j hj => ?_, hR _ (List.getElem_mem hi)⟩⟩
  have hj0 : j = 0 := by simpa using hj
  subst hj0
  simp only [Nat.zero_add, Nat.mul_one, Nat.add_zero, List.getElem_cons_zero]
  exact h.cell i hi

theorem info_ownStrs : (Tryz.prog.info? 9).map (fun i => (i.zero, i.size, i.bytes)) = some (some (.string ByteArray.empty), 1, 16) := by kernel_rfl

/-- 'append(xs, x)' onto a row of one's own: the one element lies at the head of the block eb. -/
theorem wpList_append_oneStrs (w : World) {ops : Array Oper} {rest : List Oper} {o : Oper} {a : Act} {Q : Exit → Act → World → Prop} (hgd : o.guard = none) (s x : Operand)
    (ho : o.op = .call { callee := .builtin .append, args := #[s, x], argTypes := #[40, 40] })
    (base g cap : Nat) (xs : List ByteArray) (hs : a.eval s = .slice (some ⟨g, 0, none⟩) xs.length cap) (hown : OwnStrs w base g cap xs)
    (eb : Nat) (y : ByteArray) (hx : a.eval x = .slice (some ⟨eb, 0, none⟩) 1 1) (hy : w.cell? ⟨eb, 0, none⟩ = some (Value.string y)) (hb : (xs.length + 1) * 16 ≤ 140737488355328) (hbase : base ≤ w.heap.size)
    (h : ∀ g' cap' w', OwnStrs w' base g' cap' (xs ++ [y]) → w.grownBy w' (some g) → wpList Tryz.prog ops Q rest (a.put o.dst (.slice (some ⟨g', 0, none⟩) (xs.length + 1) cap')) w') : wpList Tryz.prog ops Q (o :: rest) a w := by
  obtain ⟨i, hi, hz0, hz1, hz2⟩ := info_parts info_ownStrs
  refine wpList_append_own w hgd s x 40 ho base 9 i _ 1 16 Tryz.underlying40 hi hz0 hz1 hz2 rfl (by decide) _ xs.length (xs.map Value.string) hs hown _ 1 1 [Value.string y] hx rfl (fun j u hu => ?_) (fun u hu => ?_) (by simp [maxLen]; omega) hb hbase ?_
  · cases j with
    | zero =>
      simp at hu
      subst hu
      rw [Addr.add_lit, Nat.add_zero]
      exact hy
    | succ j => simp at hu
  · simp at hu
    subst hu
    rfl
  · intro v' w' h1 h2 h3
    obtain ⟨hl, hh⟩ := h1
    rcases hh with ⟨rfl, _⟩ | ⟨g', cap', cur, rfl, hr⟩
    · have := h3.1 rfl
      cases this.1
    · refine h g' cap' w' ⟨by simp, Or.inr ⟨g', cap', cur, by simp, ?_⟩⟩ h2
      simpa using hr

/-- 'append(xs, ys...)' onto a row of one's own. -/
theorem wpList_append_allStrs (w : World) {ops : Array Oper} {rest : List Oper} {o : Oper} {a : Act} {Q : Exit → Act → World → Prop} (hgd : o.guard = none) (s x : Operand)
    (ho : o.op = .call { callee := .builtin .append, args := #[s, x], argTypes := #[40, 40] })
    (base g cap : Nat) (xs : List ByteArray) (hs : a.eval s = .slice (some ⟨g, 0, none⟩) xs.length cap) (hown : OwnStrs w base g cap xs)
    (xv : Value) (hx : a.eval x = xv) (ys : List ByteArray) (hsl : SlAt 1 16 RStr 0 w xv ys) (hb : (xs.length + ys.length) * 16 ≤ 140737488355328) (hbase : base ≤ w.heap.size)
    (h : ∀ g' cap' w', OwnStrs w' base g' cap' (xs ++ ys) → w.grownBy w' (some g) → wpList Tryz.prog ops Q rest (a.put o.dst (.slice (some ⟨g', 0, none⟩) (xs.length + ys.length) cap')) w') : wpList Tryz.prog ops Q (o :: rest) a w := by
  obtain ⟨i, hi, hz0, hz1, hz2⟩ := info_parts info_ownStrs
  obtain ⟨ax, cx, rfl, _, hn, hel⟩ := hsl
  cases ax with
  | none =>
    have hy : ys = [] := by
      cases ys with
      | nil => rfl
      | cons y ys =>
        obtain ⟨b, o, cs, hbo, _⟩ := hel 0 (by simp)
        cases hbo
    subst hy
    refine wpList_plain hgd fun K hK => ?_
    have hcap : xs.length ≤ cap := by
      obtain ⟨_, hh⟩ := hown
      rcases hh with ⟨hh, _⟩ | ⟨g1, cap1, cur, hv, _, _, h2, _⟩
      · cases hh
      · simp only [Value.slice.injEq] at hv
        obtain ⟨_, _, rfl⟩ := hv
        exact h2
    have hrun := run_append_room_src (P := Tryz.prog) w 40 40 o.type 9 i Tryz.underlying40 hi g 0 xs.length cap (.slice none 0 cx) 0 [] (Src.ofNil w Tryz.underlying40 cx) (by omega) (fun j hj => by simp at hj) (fun j hj => by simp at hj)
    unfold Oper.wp execOp
    simp only [ho, resolve, invoke, builtin, Sem.run_bind, Sem.run_pure, Result.andThen_ok, List.map_toArray, List.map_cons, List.map_nil, hs, hx, hrun, List.length_nil]
    refine hK _ _ ?_
    have hsc : w.setCells g (0 + xs.length * i.size) [] = w := by simp [World.setCells]
    rw [hsc]
    have := h g cap w (by simpa using hown) (World.grownBy.refl w _)
    simpa using this
  | some ad =>
    have hcellA : ∀ j u, (ys.map Value.string)[j]? = some u → w.cell? (ad.add j) = some u := fun j u hu => by
      have hj : j < ys.length := by
        have := (List.getElem?_eq_some_iff.1 hu).1
        simpa using this
      obtain ⟨b, oo, cs, hbo, _, _, hl, hc, hR⟩ := hel j hj
      simp only [Option.some.injEq] at hbo
      subst hbo
      obtain ⟨rfl, _⟩ := hR
      have c0 := hc 0 (by simp)
      simp only [Nat.mul_one, Nat.add_zero, List.getElem_cons_zero] at c0
      rw [Addr.add_lit, c0]
      simp [hj] at hu
      rw [hu]
    refine wpList_append_own w hgd s x 40 ho base 9 i _ 1 16 Tryz.underlying40 hi hz0 hz1 hz2 rfl (by decide) _ xs.length (xs.map Value.string) hs hown ad ys.length cx (ys.map Value.string) hx (by simp) hcellA (fun u hu => ?_) (by simp [maxLen]; omega) hb hbase ?_
    · obtain ⟨y, _, rfl⟩ := List.mem_map.1 hu
      rfl
    · intro v' w' h1 h2 h3
      obtain ⟨hl, hh⟩ := h1
      rcases hh with ⟨rfl, _⟩ | ⟨g', cap', cur, rfl, hr⟩
      · have := h3.1 rfl
        cases this.1
      · refine h g' cap' w' ⟨by simp, Or.inr ⟨g', cap', cur, by simp, ?_⟩⟩ h2
        simpa using hr

theorem box_cell {B : Nat} {w w' : World} {cs : Array Value} {t : TypeId} (h : Below (w.heap.size + 1) (w.alloc (.cells cs t)) w') (j : Nat) : w'.cell? ⟨w.heap.size, j, none⟩ = cs[j]? := by
  rw [h.cell (p := ⟨w.heap.size, j, none⟩) (Nat.lt_succ_self _), World.cell?_alloc_at _ _ _ _ rfl]

theorem box_of {w w' : World} {cs : Array Value} {t : TypeId} (h : Below (w.alloc (.cells cs t)).heap.size (w.alloc (.cells cs t)) w') : Below (w.heap.size + 1) (w.alloc (.cells cs t)) w' := by simpa using h

theorem grow_below {B : Nat} {w0 w w' : World} {g : Nat} (h : Below B w0 w) (hg : w.grownBy w' (some g)) (hB : B ≤ w.heap.size) (hr : B ≤ g) : Below B w0 w' :=
  h.grown hg hB (fun k e => by simp only [Option.some.injEq] at e; omega)

end Go.Proofs.YtlgeioedgaajoaaGreatDoor
