import Derived.Test.YtnfgcklppaknbaaFill
import Derived.Test.YtnfgcklppaknbaaProg
import Derived.WalkLawsBesides
import Derived.Deep.AppendSrc
import Derived.OwnWalk
import Derived.Test.YtnfgcklppaknbaaCode
namespace Go.Proofs.Ytnfgcklppaknbaa
open Go.RowKit
set_option linter.unusedSimpArgs false
set_option linter.unusedVariables false

/-- A row of one's own, one cell an element. -/
def OwnInts (w : World) (base g cap : Nat) (xs : List Int) : Prop := w.ownsRow base 3 1 (.slice (some ⟨g, 0, none⟩) xs.length cap) xs.length (xs.map (Value.int .i64))

theorem OwnInts.below {w w' : World} {base g cap : Nat} {xs : List Int} (h : OwnInts w base g cap xs) (hb : Below w.heap.size w w') : OwnInts w' base g cap xs := by
  have hlt := (World.ownsRow.lt h g rfl).2
  obtain ⟨h1, h2⟩ := h
  refine ⟨h1, ?_⟩
  rcases h2 with h2 | ⟨g', cap', cur, hv, hg, hh, r⟩
  · exact Or.inl h2
  · simp only [Value.slice.injEq, Option.some.injEq, Addr.mk.injEq] at hv
    obtain ⟨⟨rfl, _⟩, _, rfl⟩ := hv
    exact Or.inr ⟨g, cap, cur, rfl, hg, (hb.block g hlt).trans hh, r⟩
theorem OwnInts.cell {w : World} {base g cap : Nat} {xs : List Int} (h : OwnInts w base g cap xs) (i : Nat) (hi : i < xs.length) : w.cell? ⟨g, i, none⟩ = some ((Value.int .i64) xs[i]) := by
  have := World.ownsRow.cells h (g := g) rfl i ((Value.int .i64) xs[i]) (by simp [hi])
  rw [Addr.add_lit, Nat.zero_add] at this
  exact this
theorem OwnInts.lt {w : World} {base g cap : Nat} {xs : List Int} (h : OwnInts w base g cap xs) : g < w.heap.size := (World.ownsRow.lt h g rfl).2
theorem OwnInts.base {w : World} {base g cap : Nat} {xs : List Int} (h : OwnInts w base g cap xs) : base ≤ g := (World.ownsRow.lt h g rfl).1
theorem OwnInts.start (w : World) (base : Nat) (hb : base ≤ w.heap.size) : OwnInts (w.alloc (.cells #[] 3)) base w.heap.size 0 [] :=
  ⟨rfl, Or.inr ⟨_, _, #[], rfl, hb, Deep.blk_alloc_new _ _, Nat.le_refl _, Nat.zero_le _, rfl, rfl⟩⟩
theorem OwnInts.at {w : World} {base g cap : Nat} {xs : List Int} (h : OwnInts w base g cap xs) (hR : ∀ x, x ∈ xs → RInt 0 w [(Value.int .i64) x] x) (hn : xs.length * 8 ≤ 140737488355328) : SlAt 1 8 RInt 0 w (.slice (some ⟨g, 0, none⟩) xs.length cap) xs := by
  have hcap : xs.length ≤ cap := by
    obtain ⟨_, hh⟩ := h
    rcases hh with ⟨hh, _⟩ | ⟨g1, cap1, cur, hv, _, _, h2, _⟩
    · cases hh
    · simp only [Value.slice.injEq] at hv
      obtain ⟨_, _, rfl⟩ := hv
      exact h2
  refine ⟨_, cap, rfl, ⟨hn, hcap⟩, by unfold Len; omega, fun i hi => ⟨g, 0, [(Value.int .i64) xs[i]], rfl, Nat.zero_le _, h.lt, rfl, fun j hj => ?_, hR _ (List.getElem_mem hi)⟩⟩
  have hj0 : j = 0 := by simpa using hj
  subst hj0
  simp only [Nat.zero_add, Nat.mul_one, Nat.add_zero, List.getElem_cons_zero]
  exact h.cell i hi

theorem info_ownInts : (Try.prog.info? 3).map (fun i => (i.zero, i.size, i.bytes)) = some (some (.int .i64 0), 1, 8) := by kernel_rfl

/-- 'append(xs, x)' onto a row of one's own: the one element lies at the head of the block eb. -/
theorem wpList_append_oneInts (w : World) {ops : Array Oper} {rest : List Oper} {o : Oper} {a : Act} {Q : Exit → Act → World → Prop} (hgd : o.guard = none) (s x : Operand)
    (ho : o.op = .call { callee := .builtin .append, args := #[s, x], argTypes := #[57, 57] })
    (base g cap : Nat) (xs : List Int) (hs : a.eval s = .slice (some ⟨g, 0, none⟩) xs.length cap) (hown : OwnInts w base g cap xs)
    (eb : Nat) (y : Int) (hx : a.eval x = .slice (some ⟨eb, 0, none⟩) 1 1) (hy : w.cell? ⟨eb, 0, none⟩ = some ((Value.int .i64) y)) (hb : (xs.length + 1) * 8 ≤ 140737488355328) (hbase : base ≤ w.heap.size)
    (h : ∀ g' cap' w', OwnInts w' base g' cap' (xs ++ [y]) → w.grownBy w' (some g) → wpList Try.prog ops Q rest (a.put o.dst (.slice (some ⟨g', 0, none⟩) (xs.length + 1) cap')) w') : wpList Try.prog ops Q (o :: rest) a w := by
  obtain ⟨i, hi, hz0, hz1, hz2⟩ := info_parts info_ownInts
  refine wpList_append_own w hgd s x 57 ho base 3 i _ 1 8 Try.underlying57 hi hz0 hz1 hz2 rfl (by decide) _ xs.length (xs.map (Value.int .i64)) hs hown _ 1 1 [(Value.int .i64) y] hx rfl (fun j u hu => ?_) (fun u hu => ?_) (by simp [maxLen]; omega) hb hbase ?_
  · cases j with
    | zero =>
      simp at hu
      subst hu
      rw [Addr.add_lit, Nat.add_zero]
      exact hy
    | succ j => simp at hu
  · simp at hu
    subst hu
    rfl
  · intro v' w' h1 h2 h3
    obtain ⟨hl, hh⟩ := h1
    rcases hh with ⟨rfl, _⟩ | ⟨g', cap', cur, rfl, hr⟩
    · have := h3.1 rfl
      cases this.1
    · refine h g' cap' w' ⟨by simp, Or.inr ⟨g', cap', cur, by simp, ?_⟩⟩ h2
      simpa using hr

/-- 'append(xs, ys...)' onto a row of one's own. -/
theorem wpList_append_allInts (w : World) {ops : Array Oper} {rest : List Oper} {o : Oper} {a : Act} {Q : Exit → Act → World → Prop} (hgd : o.guard = none) (s x : Operand)
    (ho : o.op = .call { callee := .builtin .append, args := #[s, x], argTypes := #[57, 57] })
    (base g cap : Nat) (xs : List Int) (hs : a.eval s = .slice (some ⟨g, 0, none⟩) xs.length cap) (hown : OwnInts w base g cap xs)
    (xv : Value) (hx : a.eval x = xv) (ys : List Int) (hsl : SlAt 1 8 RInt 0 w xv ys) (hb : (xs.length + ys.length) * 8 ≤ 140737488355328) (hbase : base ≤ w.heap.size)
    (h : ∀ g' cap' w', OwnInts w' base g' cap' (xs ++ ys) → w.grownBy w' (some g) → wpList Try.prog ops Q rest (a.put o.dst (.slice (some ⟨g', 0, none⟩) (xs.length + ys.length) cap')) w') : wpList Try.prog ops Q (o :: rest) a w := by
  obtain ⟨i, hi, hz0, hz1, hz2⟩ := info_parts info_ownInts
  obtain ⟨ax, cx, rfl, _, hn, hel⟩ := hsl
  cases ax with
  | none =>
    have hy : ys = [] := by
      cases ys with
      | nil => rfl
      | cons y ys =>
        obtain ⟨b, o, cs, hbo, _⟩ := hel 0 (by simp)
        cases hbo
    subst hy
    refine wpList_plain hgd fun K hK => ?_
    have hcap : xs.length ≤ cap := by
      obtain ⟨_, hh⟩ := hown
      rcases hh with ⟨hh, _⟩ | ⟨g1, cap1, cur, hv, _, _, h2, _⟩
      · cases hh
      · simp only [Value.slice.injEq] at hv
        obtain ⟨_, _, rfl⟩ := hv
        exact h2
    have hrun := run_append_room_src (P := Try.prog) w 57 57 o.type 3 i Try.underlying57 hi g 0 xs.length cap (.slice none 0 cx) 0 [] (Src.ofNil w Try.underlying57 cx) (by omega) (fun j hj => by simp at hj) (fun j hj => by simp at hj)
    unfold Oper.wp execOp
    simp only [ho, resolve, invoke, builtin, Sem.run_bind, Sem.run_pure, Result.andThen_ok, List.map_toArray, List.map_cons, List.map_nil, hs, hx, hrun, List.length_nil]
    refine hK _ _ ?_
    have hsc : w.setCells g (0 + xs.length * i.size) [] = w := by simp [World.setCells]
    rw [hsc]
    have := h g cap w (by simpa using hown) (World.grownBy.refl w _)
    simpa using this
  | some ad =>
    have hcellA : ∀ j u, (ys.map (Value.int .i64))[j]? = some u → w.cell? (ad.add j) = some u := fun j u hu => by
      have hj : j < ys.length := by
        have := (List.getElem?_eq_some_iff.1 hu).1
        simpa using this
      obtain ⟨b, oo, cs, hbo, _, _, hl, hc, hR⟩ := hel j hj
      simp only [Option.some.injEq] at hbo
      subst hbo
      obtain ⟨rfl, _⟩ := hR
      have c0 := hc 0 (by simp)
      simp only [Nat.mul_one, Nat.add_zero, List.getElem_cons_zero] at c0
      rw [Addr.add_lit, c0]
      simp [hj] at hu
      rw [hu]
    refine wpList_append_own w hgd s x 57 ho base 3 i _ 1 8 Try.underlying57 hi hz0 hz1 hz2 rfl (by decide) _ xs.length (xs.map (Value.int .i64)) hs hown ad ys.length cx (ys.map (Value.int .i64)) hx (by simp) hcellA (fun u hu => ?_) (by simp [maxLen]; omega) hb hbase ?_
    · obtain ⟨y, _, rfl⟩ := List.mem_map.1 hu
      rfl
    · intro v' w' h1 h2 h3
      obtain ⟨hl, hh⟩ := h1
      rcases hh with ⟨rfl, _⟩ | ⟨g', cap', cur, rfl, hr⟩
      · have := h3.1 rfl
        cases this.1
      · refine h g' cap' w' ⟨by simp, Or.inr ⟨g', cap', cur, by simp, ?_⟩⟩ h2
        simpa using hr

/-- A row of one's own, one cell an element. -/
def OwnStrs (w : World) (base g cap : Nat) (xs : List ByteArray) : Prop := w.ownsRow base 9 1 (.slice (some ⟨g, 0, none⟩) xs.length cap) xs.length (xs.map Value.string)

theorem OwnStrs.below {w w' : World} {base g cap : Nat} {xs : List ByteArray} (h : OwnStrs w base g cap xs) (hb : Below w.heap.size w w') : OwnStrs w' base g cap xs := by
  have hlt := (World.ownsRow.lt h g rfl).2
  obtain ⟨h1, h2⟩ := h
  refine ⟨h1, ?_⟩
  rcases h2 with h2 | ⟨g', cap', cur, hv, hg, hh, r⟩
  · exact Or.inl h2
  · simp only [Value.slice.injEq, Option.some.injEq, Addr.mk.injEq] at hv
    obtain ⟨⟨rfl, _⟩, _, rfl⟩ := hv
    exact Or.inr ⟨g, cap, cur, rfl, hg, (hb.block g hlt).trans hh, r⟩
theorem OwnStrs.cell {w : World} {base g cap : Nat} {xs : List ByteArray} (h : OwnStrs w base g cap xs) (i : Nat) (hi : i < xs.length) : w.cell? ⟨g, i, none⟩ = some (Value.string xs[i]) := by
  have := World.ownsRow.cells h (g := g) rfl i (Value.string xs[i]) (by simp [hi])
  rw [Addr.add_lit, Nat.zero_add] at this
  exact this
theorem OwnStrs.lt {w : World} {base g cap : Nat} {xs : List ByteArray} (h : OwnStrs w base g cap xs) : g < w.heap.size := (World.ownsRow.lt h g rfl).2
theorem OwnStrs.base {w : World} {base g cap : Nat} {xs : List ByteArray} (h : OwnStrs w base g cap xs) : base ≤ g := (World.ownsRow.lt h g rfl).1
theorem OwnStrs.start (w : World) (base : Nat) (hb : base ≤ w.heap.size) : OwnStrs (w.alloc (.cells #[] 9)) base w.heap.size 0 [] :=
  ⟨rfl, Or.inr ⟨_, _, #[], rfl, hb, Deep.blk_alloc_new _ _, Nat.le_refl _, Nat.zero_le _, rfl, rfl⟩⟩
theorem OwnStrs.at {w : World} {base g cap : Nat} {xs : List ByteArray} (h : OwnStrs w base g cap xs) (hR : ∀ x, x ∈ xs → RStr 0 w [Value.string x] x) (hn : xs.length * 16 ≤ 140737488355328) : SlAt 1 16 RStr 0 w (.slice (some ⟨g, 0, none⟩) xs.length cap) xs := by
  have hcap : xs.length ≤ cap := by
    obtain ⟨_, hh⟩ := h
    rcases hh with ⟨hh, _⟩ | ⟨g1, cap1, cur, hv, _, _, h2, _⟩
    · cases hh
    · simp only [Value.slice.injEq] at hv
      obtain ⟨_, _, rfl⟩ := hv
      exact h2
  refine ⟨_, cap, rfl, ⟨hn, hcap⟩, by unfold Len; omega, fun i hi => ⟨g, 0, [Value.string xs[i]], rfl, Nat.zero_le _, h.lt, rfl, fun j hj => ?_, hR _ (List.getElem_mem hi)⟩⟩
  have hj0 : j = 0 := by simpa using hj
  subst hj0
  simp only [Nat.zero_add, Nat.mul_one, Nat.add_zero, List.getElem_cons_zero]
  exact h.cell i hi

theorem info_ownStrs : (Try.prog.info? 9).map (fun i => (i.zero, i.size, i.bytes)) = some (some (.string ByteArray.empty), 1, 16) := by kernel_rfl

/-- 'append(xs, x)' onto a row of one's own: the one element lies at the head of the block eb. -/
theorem wpList_append_oneStrs (w : World) {ops : Array Oper} {rest : List Oper} {o : Oper} {a : Act} {Q : Exit → Act → World → Prop} (hgd : o.guard = none) (s x : Operand)
    (ho : o.op = .call { callee := .builtin .append, args := #[s, x], argTypes := #[47, 47] })
    (base g cap : Nat) (xs : List ByteArray) (hs : a.eval s = .slice (some ⟨g, 0, none⟩) xs.length cap) (hown : OwnStrs w base g cap xs)
    (eb : Nat) (y : ByteArray) (hx : a.eval x = .slice (some ⟨eb, 0, none⟩) 1 1) (hy : w.cell? ⟨eb, 0, none⟩ = some (Value.string y)) (hb : (xs.length + 1) * 16 ≤ 140737488355328) (hbase : base ≤ w.heap.size)
    (h : ∀ g' cap' w', OwnStrs w' base g' cap' (xs ++ [y]) → w.grownBy w' (some g) → wpList Try.prog ops Q rest (a.put o.dst (.slice (some ⟨g', 0, none⟩) (xs.length + 1) cap')) w') : wpList Try.prog ops Q (o :: rest) a w := by
  obtain ⟨i, hi, hz0, hz1, hz2⟩ := info_parts info_ownStrs
  refine wpList_append_own w hgd s x 47 ho base 9 i _ 1 16 Try.underlying47 hi hz0 hz1 hz2 rfl (by decide) _ xs.length (xs.map Value.string) hs hown _ 1 1 [Value.string y] hx rfl (fun j u hu => ?_) (fun u hu => ?_) (by simp [maxLen]; omega) hb hbase ?_
  · cases j with
    | zero =>
      simp at hu
      subst hu
      rw [Addr.add_lit, Nat.add_zero]
      exact hy
    | succ j => simp at hu
  · simp at hu
    subst hu
    rfl
  · intro v' w' h1 h2 h3
    obtain ⟨hl, hh⟩ := h1
    rcases hh with ⟨rfl, _⟩ | ⟨g', cap', cur, rfl, hr⟩
    · have := h3.1 rfl
      cases this.1
    · refine h g' cap' w' ⟨by simp, Or.inr ⟨g', cap', cur, by simp, ?_⟩⟩ h2
      simpa using hr

/-- 'append(xs, ys...)' onto a row of one's own. -/
theorem wpList_append_allStrs (w : World) {ops : Array Oper} {rest : List Oper} {o : Oper} {a : Act} {Q : Exit → Act → World → Prop} (hgd : o.guard = none) (s x : Operand)
    (ho : o.op = .call { callee := .builtin .append, args := #[s, x], argTypes := #[47, 47] })
    (base g cap : Nat) (xs : List ByteArray) (hs : a.eval s = .slice (some ⟨g, 0, none⟩) xs.length cap) (hown : OwnStrs w base g cap xs)
    (xv : Value) (hx : a.eval x = xv) (ys : List ByteArray) (hsl : SlAt 1 16 RStr 0 w xv ys) (hb : (xs.length + ys.length) * 16 ≤ 140737488355328) (hbase : base ≤ w.heap.size)
    (h : ∀ g' cap' w', OwnStrs w' base g' cap' (xs ++ ys) → w.grownBy w' (some g) → wpList Try.prog ops Q rest (a.put o.dst (.slice (some ⟨g', 0, none⟩) (xs.length + ys.length) cap')) w') : wpList Try.prog ops Q (o :: rest) a w := by
  obtain ⟨i, hi, hz0, hz1, hz2⟩ := info_parts info_ownStrs
  obtain ⟨ax, cx, rfl, _, hn, hel⟩ := hsl
  cases ax with
  | none =>
    have hy : ys = [] := by
      cases ys with
      | nil => rfl
      | cons y ys =>
        obtain ⟨b, o, cs, hbo, _⟩ := hel 0 (by simp)
        cases hbo
    subst hy
    refine wpList_plain hgd fun K hK => ?_
    have hcap : xs.length ≤ cap := by
      obtain ⟨_, hh⟩ := hown
      rcases hh with ⟨hh, _⟩ | ⟨g1, cap1, cur, hv, _, _, h2, _⟩
      · cases hh
      · simp only [Value.slice.injEq] at hv
        obtain ⟨_, _, rfl⟩ := hv
        exact h2
    have hrun := run_append_room_src (P := Try.prog) w 47 47 o.type 9 i Try.underlying47 hi g 0 xs.length cap (.slice none 0 cx) 0 [] (Src.ofNil w Try.underlying47 cx) (by omega) (fun j hj => by simp at hj) (fun j hj => by simp at hj)
    unfold Oper.wp execOp
    simp only [ho, resolve, invoke, builtin, Sem.run_bind, Sem.run_pure, Result.andThen_ok, List.map_toArray, List.map_cons, List.map_nil, hs, hx, hrun, List.length_nil]
    refine hK _ _ ?_
    have hsc : w.setCells g (0 + xs.length * i.size) [] = w := by simp [World.setCells]
    rw [hsc]
    have := h g cap w (by simpa using hown) (World.grownBy.refl w _)
    simpa using this
  | some ad =>
    have hcellA : ∀ j u, (ys.map Value.string)[j]? = some u → w.cell? (ad.add j) = some u := fun j u hu => by
      have hj : j < ys.length := by
        have := (List.getElem?_eq_some_iff.1 hu).1
        simpa using this
      obtain ⟨b, oo, cs, hbo, _, _, hl, hc, hR⟩ := hel j hj
      simp only [Option.some.injEq] at hbo
      subst hbo
      obtain ⟨rfl, _⟩ := hR
      have c0 := hc 0 (by simp)
      simp only [Nat.mul_one, Nat.add_zero, List.getElem_cons_zero] at c0
      rw [Addr.add_lit, c0]
      simp [hj] at hu
      rw [hu]
    refine wpList_append_own w hgd s x 47 ho base 9 i _ 1 16 Try.underlying47 hi hz0 hz1 hz2 rfl (by decide) _ xs.length (xs.map Value.string) hs hown ad ys.length cx (ys.map Value.string) hx (by simp) hcellA (fun u hu => ?_) (by simp [maxLen]; omega) hb hbase ?_
    · obtain ⟨y, _, rfl⟩ := List.mem_map.1 hu
      rfl
    · intro v' w' h1 h2 h3
      obtain ⟨hl, hh⟩ := h1
      rcases hh with ⟨rfl, _⟩ | ⟨g', cap', cur, rfl, hr⟩
      · have := h3.1 rfl
        cases this.1
      · refine h g' cap' w' ⟨by simp, Or.inr ⟨g', cap', cur, by simp, ?_⟩⟩ h2
        simpa using hr

theorem box_cell {B : Nat} {w w' : World} {cs : Array Value} {t : TypeId} (h : Below (w.heap.size + 1) (w.alloc (.cells cs t)) w') (j : Nat) : w'.cell? ⟨w.heap.size, j, none⟩ = cs[j]? := by
  rw [h.cell (p := ⟨w.heap.size, j, none⟩) (Nat.lt_succ_self _), World.cell?_alloc_at _ _ _ _ rfl]

theorem box_of {w w' : World} {cs : Array Value} {t : TypeId} (h : Below (w.alloc (.cells cs t)).heap.size (w.alloc (.cells cs t)) w') : Below (w.heap.size + 1) (w.alloc (.cells cs t)) w' := by simpa using h

theorem grow_below {B : Nat} {w0 w w' : World} {g : Nat} (h : Below B w0 w) (hg : w.grownBy w' (some g)) (hB : B ≤ w.heap.size) (hr : B ≤ g) : Below B w0 w' :=
  h.grown hg hB (fun k e => by simp only [Option.some.injEq] at e; omega)

end Go.Proofs.Ytnfgcklppaknbaa
namespace Go.Proofs.Ytnfgcklppaknbaa
open Go.RowKit
set_option linter.unusedSimpArgs false
set_option linter.unusedVariables false

/-- The cells of a list of variables, three each. -/
def Cs (w : World) : List Value → List DVar → Prop
  | cells, [] => cells = []
  | cells, y :: ys => ∃ a b c rest, cells = a :: b :: c :: rest ∧ RVar 0 w [a, b, c] y ∧ Cs w rest ys

theorem Cs.append {w : World} {c1 c2 : List Value} {y1 y2 : List DVar} (h1 : Cs w c1 y1) (h2 : Cs w c2 y2) : Cs w (c1 ++ c2) (y1 ++ y2) := by
  induction y1 generalizing c1 with
  | nil => have : c1 = [] := h1; subst this; exact h2
  | cons y ys ih =>
    obtain ⟨a, b, c, rest, rfl, hR, hrest⟩ := h1
    exact ⟨a, b, c, rest ++ c2, rfl, hR, ih hrest⟩
theorem Cs.length {w : World} {cs : List Value} {ys : List DVar} (h : Cs w cs ys) : cs.length = ys.length * 3 := by
  induction ys generalizing cs with
  | nil => have : cs = [] := h; subst this; rfl
  | cons y ys ih =>
    obtain ⟨a, b, c, rest, rfl, hR, hrest⟩ := h
    have := ih hrest
    simp only [List.length_cons]
    omega
theorem Cs.stays {w w' : World} (hb : Below w.heap.size w w') {cs : List Value} {ys : List DVar} (h : Cs w cs ys) : Cs w' cs ys := by
  induction ys generalizing cs with
  | nil => exact h
  | cons y ys ih =>
    obtain ⟨a, b, c, rest, rfl, hR, hrest⟩ := h
    exact ⟨a, b, c, rest, rfl, RVar_kept.stays _ _ _ _ _ hb hR, ih hrest⟩
theorem Cs.one {w : World} {cs : List Value} {ys : List DVar} (h : Cs w cs ys) : ∀ u, u ∈ cs → u.oneCell' = true := by
  induction ys generalizing cs with
  | nil => have : cs = [] := h; subst this; intro u hu; cases hu
  | cons y ys ih =>
    obtain ⟨a, b, c, rest, rfl, hR, hrest⟩ := h
    obtain ⟨cl, e, _, _, hcl⟩ := hR
    obtain ⟨ac, cc, rfl⟩ := hcl.shape
    simp only [List.cons.injEq] at e
    obtain ⟨rfl, rfl, rfl, _⟩ := e
    intro u hu
    simp only [List.mem_cons] at hu
    rcases hu with rfl | rfl | rfl | hu
    · rfl
    · rfl
    · rfl
    · exact ih hrest u hu
theorem Cs.get {w : World} {cs : List Value} {ys : List DVar} (h : Cs w cs ys) (i : Nat) (hi : i < ys.length) : ∃ q : List Value, q.length = 3 ∧ (∀ j (hj : j < q.length), cs[i * 3 + j]? = some q[j]) ∧ RVar 0 w q ys[i] := by
  induction ys generalizing cs i with
  | nil => exact absurd hi (Nat.not_lt_zero _)
  | cons y ys ih =>
    obtain ⟨a, b, c, rest, rfl, hR, hrest⟩ := h
    cases i with
    | zero =>
      refine ⟨[a, b, c], rfl, fun j hj => ?_, hR⟩
      match j, hj with
      | 0, _ => rfl
      | 1, _ => rfl
      | 2, _ => rfl
    | succ i =>
      obtain ⟨q, hq, hc, hr⟩ := ih hrest i (by simpa using hi)
      refine ⟨q, hq, fun j hj => ?_, hr⟩
      rw [show (i + 1) * 3 + j = (i * 3 + j) + 1 + 1 + 1 from by omega]
      simpa using hc j hj

theorem cells_of {w w0 : World} {b : Nat} {ys : List DVar} {o : Nat} (h : ∀ i (hi : i < ys.length), ∃ cs : List Value, cs.length = 3 ∧ (∀ j (hj : j < cs.length), w.cell? ⟨b, o + i * 3 + j, none⟩ = some cs[j]) ∧ RVar 0 w0 cs ys[i]) :
    ∃ news, Cs w0 news ys ∧ ∀ j u, news[j]? = some u → w.cell? ((⟨b, o, none⟩ : Addr).add j) = some u := by
  induction ys generalizing o with
  | nil => exact ⟨[], rfl, fun j u h => by simp at h⟩
  | cons y ys ih =>
    obtain ⟨cs, hl, hc, hR⟩ := h 0 (by simp)
    obtain ⟨rest, hrest, hcell⟩ := ih (o := o + 3) (fun i hi => by
      obtain ⟨q, hq, hcq, hRq⟩ := h (i + 1) (by simpa using hi)
      refine ⟨q, hq, fun j hj => ?_, by simpa using hRq⟩
      rw [show o + 3 + i * 3 + j = o + (i + 1) * 3 + j from by omega]
      exact hcq j hj)
    match cs, hl with
    | [a0, a1, a2], _ =>
      refine ⟨a0 :: a1 :: a2 :: rest, ⟨a0, a1, a2, rest, rfl, hR, hrest⟩, fun j u hu => ?_⟩
      match j with
      | 0 => have := hc 0 (by simp); simp at hu; subst hu; simpa [Addr.add] using this
      | 1 => have := hc 1 (by simp); simp at hu; subst hu; simpa [Addr.add] using this
      | 2 => have := hc 2 (by simp); simp at hu; subst hu; simpa [Addr.add] using this
      | j + 3 =>
        have := hcell j u (by simpa using hu)
        rw [← this]
        rw [Addr.add_lit, Addr.add_lit, show o + (j + 3) = o + 3 + j from by omega]

theorem info_Var : (Try.prog.info? 44).map (fun i => (i.zero, i.size, i.bytes)) = some (some (.agg #[.string ByteArray.empty, .int .i64 0, .slice none 0 0]), 3, 48) := by kernel_rfl

/-- 'append(list, ys...)' onto a list of one's own. -/
theorem wpList_append_vars (w w0 : World) (hw0 : Below w0.heap.size w0 w) {ops : Array Oper} {rest : List Oper} {o : Oper} {a : Act} {Q : Exit → Act → World → Prop} (hgd : o.guard = none) (s x : Operand)
    (ho : o.op = .call { callee := .builtin .append, args := #[s, x], argTypes := #[36, 36] })
    (base g n cap : Nat) (cells : List Value) (hs : a.eval s = .slice (some ⟨g, 0, none⟩) n cap) (hown : w.ownsRow base 44 3 (.slice (some ⟨g, 0, none⟩) n cap) n cells)
    (xv : Value) (hx : a.eval x = xv) (ys : List DVar) (hsl : SlAt 3 48 RVar 0 w0 xv ys) (hb : (n + ys.length) * 48 ≤ 140737488355328) (hbase : base ≤ w.heap.size)
    (h : ∀ g' cap' w' news, w'.ownsRow base 44 3 (.slice (some ⟨g', 0, none⟩) (n + ys.length) cap') (n + ys.length) (cells ++ news) → w.grownBy w' (some g) → Cs w0 news ys → wpList Try.prog ops Q rest (a.put o.dst (.slice (some ⟨g', 0, none⟩) (n + ys.length) cap')) w') : wpList Try.prog ops Q (o :: rest) a w := by
  obtain ⟨i, hi, hz0, hz1, hz2⟩ := info_parts info_Var
  obtain ⟨ax, cx, rfl, _, hn, hel⟩ := hsl
  cases ax with
  | none =>
    have hy : ys = [] := by
      cases ys with
      | nil => rfl
      | cons y ys =>
        obtain ⟨b, o, cs, hbo, _⟩ := hel 0 (by simp)
        cases hbo
    subst hy
    refine wpList_plain hgd fun K hK => ?_
    have hcap : n ≤ cap := by
      obtain ⟨_, hh⟩ := hown
      rcases hh with ⟨hh, _⟩ | ⟨g1, cap1, cur, hv, _, _, h2, _⟩
      · cases hh
      · simp only [Value.slice.injEq] at hv
        obtain ⟨_, _, rfl⟩ := hv
        exact h2
    have hrun := run_append_room_src (P := Try.prog) w 36 36 o.type 44 i Try.underlying36 hi g 0 n cap (.slice none 0 cx) 0 [] (Src.ofNil w Try.underlying36 cx) (by omega) (fun j hj => by simp at hj) (fun j hj => by simp at hj)
    unfold Oper.wp execOp
    simp only [ho, resolve, invoke, builtin, Sem.run_bind, Sem.run_pure, Result.andThen_ok, List.map_toArray, List.map_cons, List.map_nil, hs, hx, hrun, List.length_nil]
    refine hK _ _ ?_
    have hsc : w.setCells g (0 + n * i.size) [] = w := by simp [World.setCells]
    rw [hsc]
    have := h g cap w [] (by simpa using hown) (World.grownBy.refl w _) rfl
    simpa using this
  | some ad =>
    by_cases hy : ys.length = 0
    · have hy' : ys = [] := List.eq_nil_of_length_eq_zero hy
      subst hy'
      refine wpList_append_own w hgd s x 36 ho base 44 i _ 3 48 Try.underlying36 hi hz0 hz1 hz2 rfl (by decide) _ n cells hs hown ad 0 cx [] (by simpa using hx) (by simp) (fun j u h => by simp at h) (fun u h => by cases h) (by simp [maxLen]; omega) (by simpa using hb) hbase ?_
      intro v' w' h1 h2 h3
      obtain ⟨hl, hh⟩ := h1
      rcases hh with ⟨rfl, _⟩ | ⟨g', cap', cur, rfl, hr⟩
      · have := h3.1 rfl
        cases this.1
      · exact h g' cap' w' [] ⟨hl, Or.inr ⟨g', cap', cur, rfl, hr⟩⟩ h2 rfl
    · obtain ⟨b, oo, cs, hbo, _⟩ := hel 0 (by omega)
      simp only [Option.some.injEq] at hbo
      subst hbo
      obtain ⟨news, hcs, hcell⟩ := cells_of (w := w) (w0 := w0) (b := b) (ys := ys) (o := oo) (fun i hi => by
        obtain ⟨b', o', cs', hbo', _, hlt', hl', hc', hR'⟩ := hel i hi
        simp only [Option.some.injEq, Addr.mk.injEq] at hbo'
        obtain ⟨rfl, rfl, _⟩ := hbo'
        exact ⟨cs', hl', fun j hj => by rw [hw0.cell (p := ⟨b, _, none⟩) hlt']; exact hc' j hj, hR'⟩)
      refine wpList_append_own w hgd s x 36 ho base 44 i _ 3 48 Try.underlying36 hi hz0 hz1 hz2 rfl (by decide) _ n cells hs hown _ ys.length cx news hx hcs.length hcell hcs.one (by simp [maxLen]; omega) hb hbase ?_
      intro v' w' h1 h2 h3
      obtain ⟨hl, hh⟩ := h1
      rcases hh with ⟨rfl, _⟩ | ⟨g', cap', cur, rfl, hr⟩
      · have := h3.1 rfl
        cases this.1
      · exact h g' cap' w' news ⟨hl, Or.inr ⟨g', cap', cur, rfl, hr⟩⟩ h2 hcs

theorem own_start (w : World) (base : Nat) (hb : base ≤ w.heap.size) (e : TypeId) : (w.alloc (.cells #[] e)).ownsRow base e 3 (.slice (some ⟨w.heap.size, 0, none⟩) 0 0) 0 [] :=
  ⟨rfl, Or.inr ⟨_, _, #[], rfl, hb, Deep.blk_alloc_new _ _, Nat.le_refl _, Nat.zero_le _, rfl, rfl⟩⟩

theorem own_at {w : World} {base g n cap : Nat} {e : TypeId} {cells : List Value} (h : w.ownsRow base e 3 (.slice (some ⟨g, 0, none⟩) n cap) n cells) {ys : List DVar} (hcs : Cs w cells ys) (hn : ys.length = n) (hb : n * 48 ≤ 140737488355328) :
    SlAt 3 48 RVar 0 w (.slice (some ⟨g, 0, none⟩) n cap) ys := by
  have hcap : n ≤ cap := by
    obtain ⟨_, hh⟩ := h
    rcases hh with ⟨hh, _⟩ | ⟨g1, cap1, cur, hv, _, _, h2, _⟩
    · cases hh
    · simp only [Value.slice.injEq] at hv
      obtain ⟨_, _, rfl⟩ := hv
      exact h2
  refine ⟨_, cap, by rw [hn], ⟨by unfold Len; omega, by omega⟩, by unfold Len; omega, fun i hi => ?_⟩
  obtain ⟨q, hq, hc, hR⟩ := hcs.get i hi
  refine ⟨g, 0, q, rfl, Nat.zero_le _, (h.lt g rfl).2, hq, fun j hj => ?_, hR⟩
  have := h.cells (g := g) rfl (i * 3 + j) _ (hc j hj)
  rw [Addr.add_lit] at this
  rw [← this]
  rw [show 0 + i * 3 + j = 0 + (i * 3 + j) from by omega]

theorem own_base {w : World} {base g n cap : Nat} {e : TypeId} {cells : List Value} (h : w.ownsRow base e 3 (.slice (some ⟨g, 0, none⟩) n cap) n cells) : base ≤ g := (h.lt g rfl).1

set_option maxHeartbeats 1000000 in
theorem l1Vars_ok (x : DNode) (a1 a2 a3 a4 : Value) (w : World) (h1 : SlAt 3 48 RVar 0 w a1 x.ins) (h2 : SlAt 3 48 RVar 0 w a2 x.outs) (h3 : SlAt 3 48 RVar 0 w a3 x.vars) (hsum : x.ins.length + x.outs.length + x.vars.length ≤ 1048576) :
    Calls Try.prog 13 #[.agg #[.string x.name, a1, a2, a3, a4]] w fun e w' => ∃ v, e = .returned v ∧ SlAt 3 48 RVar 0 w' v (x.ins ++ x.outs ++ x.vars) ∧ Below w.heap.size w w' := by
  obtain ⟨s, ins, outs, vars, eqs⟩ := x
  simp only at *
  have H1 := hide h1
  have H2 := hide h2
  have H3 := hide h3
  clear h1 h2 h3
  have P0 : Below (w.heap.size + 1) (w.alloc (.cells #[.string s, a1, a2, a3, a4] 39)) ((w.alloc (.cells #[.string s, a1, a2, a3, a4] 39)).alloc (.cells #[] 44)) := (Below.refl _ _).alloc (by simp) _
  have P0' : Below w.heap.size w (w.alloc (.cells #[.string s, a1, a2, a3, a4] 39)) := (Below.refl _ _).alloc (Nat.le_refl _) _
  have Q0 : Below w.heap.size w ((w.alloc (.cells #[.string s, a1, a2, a3, a4] 39)).alloc (.cells #[] 44)) := P0'.trans (P0.mono (Nat.le_succ _))
  have O0 : ((w.alloc (.cells #[.string s, a1, a2, a3, a4] 39)).alloc (.cells #[] 44)).ownsRow (w.heap.size + 1) 44 3 (.slice (some ⟨w.heap.size + 1, 0, none⟩) 0 0) 0 [] := by
    have := own_start (w.alloc (.cells #[.string s, a1, a2, a3, a4] 39)) (w.heap.size + 1) (by simp) 44
    simpa using this
  have HP0 := hide P0
  have HQ0 := hide Q0
  have HP0' := hide P0'
  have HO0 := hide O0
  clear P0 Q0 P0' O0
  go_enter Try.func13, Try.ntmps13
  go_wp2_with (at_builtin; go_must (refine wpList_append_vars _ w (unhide HQ0) rfl _ _ rfl (w.heap.size + 1) (w.heap.size + 1) 0 0 [] rfl (unhide HO0) _ rfl ins (unhide H1) (by omega) (by simp) ?_))
  intro g1 cap1 w1 news1 hown1 hgr1 hcs1
  have hsz1 := hgr1.size
  simp only [World.size_alloc] at hsz1
  have B1 := grow_below (unhide HP0) hgr1 (by simp) (Nat.le_refl _)
  have Q1 : Below w.heap.size w w1 := (unhide HP0').trans (B1.mono (Nat.le_succ _))
  have HB1 := hide B1
  have HQ1 := hide Q1
  have HO1 := hide hown1
  have HC1 := hide hcs1
  have k2 := box_cell (B := 0) B1 2
  have k3 := box_cell (B := 0) B1 3
  simp at k2 k3
  clear hown1 hgr1 hcs1 B1 Q1
  go_wp2_with (at_builtin; go_must (refine wpList_append_vars _ w (unhide HQ1) rfl _ _ rfl (w.heap.size + 1) g1 _ cap1 _ rfl (unhide HO1) _ rfl outs (unhide H2) (by omega) (by omega) ?_))
  intro g2 cap2 w2 news2 hown2 hgr2 hcs2
  have hsz2 := hgr2.size
  have B2 := grow_below (unhide HB1) hgr2 (by omega) (own_base (unhide HO1))
  have Q2 : Below w.heap.size w w2 := (unhide HP0').trans (B2.mono (Nat.le_succ _))
  have HB2 := hide B2
  have HQ2 := hide Q2
  have HO2 := hide hown2
  have HC2 := hide hcs2
  have k3 := box_cell (B := 0) B2 3
  simp at k3
  clear hown2 hgr2 hcs2 B2 Q2 k2
  go_wp2_with (at_builtin; go_must (refine wpList_append_vars _ w (unhide HQ2) rfl _ _ rfl (w.heap.size + 1) g2 _ cap2 _ rfl (unhide HO2) _ rfl vars (unhide H3) (by omega) (by omega) ?_))
  intro g3 cap3 w3 news3 hown3 hgr3 hcs3
  have B3 := grow_below (unhide HB2) hgr3 (by omega) (own_base (unhide HO2))
  have Q3 : Below w.heap.size w w3 := (unhide HP0').trans (B3.mono (Nat.le_succ _))
  have D := own_at (ys := ins ++ outs ++ vars) hown3 (by
    rw [← List.append_assoc]
    exact (((unhide HC1).append (unhide HC2)).append hcs3).stays Q3) (by rw [List.length_append, List.length_append]) (by omega)
  have HD := hide D
  have HQ3 := hide Q3
  clear D Q3 B3 hown3 hgr3 hcs3
  go_wp2
  go_ret
  exact ⟨_, rfl, unhide HD, unhide HQ3⟩

end Go.Proofs.Ytnfgcklppaknbaa
namespace Go.Proofs.Ytnfgcklppaknbaa
open Go.RowKit
set_option linter.unusedSimpArgs false
set_option linter.unusedVariables false

def vbB (m i : Nat) (v : DVar) : Bool := if i < m then portB v else varB v

theorem node_iff (n : DNode) : nodeB n = true ↔ (1 ≤ n.outs.length ∧ n.ins.length + n.outs.length + n.vars.length ≤ 500 ∧ 1 ≤ n.eqs.length ∧ n.eqs.length ≤ 500) ∧ nameB n.name = true ∧ n.ins.all portB = true ∧ n.outs.all portB = true ∧ n.vars.all varB = true ∧ n.eqs.all eqB = true := by
  unfold nodeB
  simp only [Bool.and_eq_true, decide_eq_true_iff, and_assoc]

theorem of_not_true {b : Bool} (h : ¬ b = true) : b = false := by cases b; rfl; exact absurd rfl h

theorem node_no_name (n : DNode) (h : nameB n.name = false) : nodeB n = false := of_not_true fun hh => by
  have := ((node_iff n).1 hh).2.1
  rw [h] at this
  cases this
theorem node_no_len (n : DNode) (h : ¬ (1 ≤ n.outs.length ∧ n.ins.length + n.outs.length + n.vars.length ≤ 500 ∧ 1 ≤ n.eqs.length ∧ n.eqs.length ≤ 500)) : nodeB n = false := of_not_true fun hh => h ((node_iff n).1 hh).1
theorem node_no_eq (n : DNode) (h : n.eqs.all eqB = false) : nodeB n = false := of_not_true fun hh => by
  have := ((node_iff n).1 hh).2.2.2.2.2
  rw [h] at this
  cases this

theorem vs_all (ins outs vars : List DVar) : (∀ i (h : i < (ins ++ outs ++ vars).length), vbB (ins.length + outs.length) i (ins ++ outs ++ vars)[i] = true) ↔ ins.all portB = true ∧ outs.all portB = true ∧ vars.all varB = true := by
  simp only [List.all_eq_true]
  constructor
  · intro h
    refine ⟨fun x hx => ?_, fun x hx => ?_, fun x hx => ?_⟩
    · obtain ⟨j, hj, rfl⟩ := List.getElem_of_mem hx
      have := h j (by simp only [List.length_append]; omega)
      rw [List.getElem_append_left (by simp only [List.length_append]; omega), List.getElem_append_left hj] at this
      unfold vbB at this
      rw [if_pos (by omega)] at this
      exact this
    · obtain ⟨j, hj, rfl⟩ := List.getElem_of_mem hx
      have := h (ins.length + j) (by simp only [List.length_append]; omega)
      rw [List.getElem_append_left (by simp only [List.length_append]; omega), List.getElem_append_right (by omega)] at this
      unfold vbB at this
      rw [if_pos (by omega)] at this
      simpa using this
    · obtain ⟨j, hj, rfl⟩ := List.getElem_of_mem hx
      have := h (ins.length + outs.length + j) (by simp only [List.length_append]; omega)
      rw [List.getElem_append_right (by simp only [List.length_append]; omega)] at this
      unfold vbB at this
      rw [if_neg (by omega)] at this
      simpa using this
  · rintro ⟨h1, h2, h3⟩ i hi
    simp only [List.length_append] at hi
    unfold vbB
    by_cases c1 : i < ins.length
    · rw [if_pos (by omega), List.getElem_append_left (by simp only [List.length_append]; omega), List.getElem_append_left c1]
      exact h1 _ (List.getElem_mem c1)
    · by_cases c2 : i < ins.length + outs.length
      · rw [if_pos c2, List.getElem_append_left (by simp only [List.length_append]; omega), List.getElem_append_right (by omega)]
        exact h2 _ (List.getElem_mem (by omega))
      · rw [if_neg c2, List.getElem_append_right (by simp only [List.length_append]; omega)]
        exact h3 _ (List.getElem_mem (by simp only [List.length_append]; omega))

theorem node_no_var (n : DNode) (vs : List DVar) (e : n.ins ++ n.outs ++ n.vars = vs) (i : Nat) (hi : i < vs.length) (h : vbB (n.ins.length + n.outs.length) i vs[i] = false) : nodeB n = false := of_not_true fun hh => by
  have hn := (node_iff n).1 hh
  subst e
  have := (vs_all n.ins n.outs n.vars).2 ⟨hn.2.2.1, hn.2.2.2.1, hn.2.2.2.2.1⟩ i hi
  rw [h] at this
  cases this

theorem node_yes (n : DNode) (vs : List DVar) (e : n.ins ++ n.outs ++ n.vars = vs) (h0 : 1 ≤ n.outs.length ∧ n.ins.length + n.outs.length + n.vars.length ≤ 500 ∧ 1 ≤ n.eqs.length ∧ n.eqs.length ≤ 500) (h1 : nameB n.name = true)
    (h2 : ∀ i (h : i < vs.length), vbB (n.ins.length + n.outs.length) i vs[i] = true) (h3 : n.eqs.all eqB = true) : nodeB n = true := by
  subst e
  have := (vs_all n.ins n.outs n.vars).1 h2
  exact (node_iff n).2 ⟨h0, h1, this.1, this.2.1, this.2.2, h3⟩

theorem var_iff (v : DVar) : varB v = true ↔ nameB v.name = true ∧ (v.type = 1 ∨ v.type = 2) ∧ v.clock.length ≤ 8 ∧ v.clock.all condB = true := by
  unfold varB
  simp only [Bool.and_eq_true, decide_eq_true_iff, and_assoc]
theorem port_iff (v : DVar) : portB v = true ↔ v.clock.length = 0 ∧ varB v = true := by
  unfold portB
  simp only [Bool.and_eq_true, decide_eq_true_iff]
theorem vb_iff (m i : Nat) (v : DVar) : vbB m i v = true ↔ nameB v.name = true ∧ (v.type = 1 ∨ v.type = 2) ∧ v.clock.length ≤ 8 ∧ v.clock.all condB = true ∧ (i < m → v.clock.length = 0) := by
  unfold vbB
  by_cases h : i < m
  · rw [if_pos h, port_iff, var_iff]
    constructor
    · rintro ⟨a, b, c, d, e⟩; exact ⟨b, c, d, e, fun _ => a⟩
    · rintro ⟨b, c, d, e, a⟩; exact ⟨a h, b, c, d, e⟩
  · rw [if_neg h, var_iff]
    constructor
    · rintro ⟨b, c, d, e⟩; exact ⟨b, c, d, e, fun h' => absurd h' h⟩
    · rintro ⟨b, c, d, e, _⟩; exact ⟨b, c, d, e⟩
theorem vb_no (m i : Nat) (v : DVar) (h : ¬ (nameB v.name = true ∧ (v.type = 1 ∨ v.type = 2) ∧ v.clock.length ≤ 8 ∧ v.clock.all condB = true ∧ (i < m → v.clock.length = 0))) : vbB m i v = false := of_not_true fun hh => h ((vb_iff m i v).1 hh)

end Go.Proofs.Ytnfgcklppaknbaa
