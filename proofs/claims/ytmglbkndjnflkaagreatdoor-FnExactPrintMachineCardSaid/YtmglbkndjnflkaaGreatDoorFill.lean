import Derived.Test.YtmglbkndjnflkaaGreatDoorData
import Derived.Test.YtmglbkndjnflkaaGreatDoorProg
import Derived.WalkLawsBesides
import Derived.Deep.AppendSrc
import Derived.OwnWalk
namespace Go.Proofs.YtmglbkndjnflkaaGreatDoor
open Go.RowKit

/-- The cells cs stored into block b from place i on. -/
def putCells (w : World) (b : Nat) : Nat → List Value → World
  | _, [] => w
  | i, c :: cs => (putCells w b (i + 1) cs).setCell ⟨b, i, none⟩ c

/-- .. in the order of the text. -/
def putUp (w : World) (b : Nat) : Nat → List Value → World
  | _, [] => w
  | i, c :: cs => putUp (w.setCell ⟨b, i, none⟩ c) b (i + 1) cs

theorem putUp_row {w : World} {b n : Nat} (h : RowAt w b n) (i : Nat) (cs : List Value) : RowAt (putUp w b i cs) b n := by
  induction cs generalizing w i with
  | nil => exact h
  | cons c cs ih => exact ih (h.set i c) (i + 1)

theorem cell_set_other (w : World) (b i : Nat) (u : Value) (p : Addr) (h : p.block ≠ b ∨ p.off ≠ i) : (w.setCell ⟨b, i, none⟩ u).cell? p = w.cell? p := by
  simp only [World.cell?, World.setCell, Array.getElem?_modify]
  by_cases hb : p.block = b
  · have hi : p.off ≠ i := by rcases h with h | h; exact absurd hb h; exact h
    subst hb
    simp only [if_true]
    cases hh : w.heap[p.block]? with
    | none => simp
    | some o =>
      cases o with
      | cells c t f =>
        simp [Ne.symm hi]
      | _ => simp
  · rw [if_neg (fun h => hb h.symm)]

theorem putUp_out (w : World) (b i : Nat) (cs : List Value) (p : Addr) (h : p.block ≠ b ∨ p.off < i ∨ i + cs.length ≤ p.off) : (putUp w b i cs).cell? p = w.cell? p := by
  induction cs generalizing w i with
  | nil => rfl
  | cons c cs ih =>
    simp only [putUp]
    rw [ih _ _ (by simp only [List.length_cons] at h; omega)]
    exact cell_set_other _ _ _ _ _ (by simp only [List.length_cons] at h; omega)

theorem cell_set_self {w : World} {b n : Nat} (h : RowAt w b n) {i : Nat} (hi : i < n) (u : Value) : (w.setCell ⟨b, i, none⟩ u).cell? ⟨b, i, none⟩ = some u := by
  obtain ⟨c, t, hb, hn⟩ := h
  simp [World.cell?, World.setCell, Array.getElem?_modify, hb, hn, hi]

theorem putUp_in {w : World} {b n : Nat} (h : RowAt w b n) (i : Nat) (cs : List Value) (hl : i + cs.length ≤ n) (j : Nat) (hj : j < cs.length) : (putUp w b i cs).cell? ⟨b, i + j, none⟩ = some cs[j] := by
  induction cs generalizing w i j with
  | nil => exact absurd hj (Nat.not_lt_zero _)
  | cons c cs ih =>
    simp only [List.length_cons] at hl hj
    simp only [putUp]
    cases j with
    | zero =>
      rw [putUp_out _ _ _ _ _ (Or.inr (Or.inl (by simp)))]
      exact cell_set_self h (by omega) c
    | succ j =>
      have := ih (h.set i c) (i + 1) (by omega) j (by omega)
      rw [show i + (j + 1) = i + 1 + j from by omega]
      simpa using this

theorem putUp_kept {lo hi : Nat} {w w' : World} (h : Kept lo hi w w') {b : Nat} (hb : b < lo) (i : Nat) (cs : List Value) : Kept lo hi w (putUp w' b i cs) := by
  induction cs generalizing w' i with
  | nil => exact h
  | cons c cs ih => exact ih (h.setCell (p := ⟨b, i, none⟩) hb c) (i + 1)

theorem putUp_below {B : Nat} {w w' : World} (h : Below B w w') {b : Nat} (hb : B ≤ b) (i : Nat) (cs : List Value) : Below B w (putUp w' b i cs) := by
  induction cs generalizing w' i with
  | nil => exact h
  | cons c cs ih => exact ih (h.setCell (p := ⟨b, i, none⟩) hb c) (i + 1)

/-- One element more. -/
theorem fill_step {α : Type} {sz : Nat} {R : Nat → World → List Value → α → Prop} (hK : KeptBy R) (hL : Lowers R) {w wr w1 : World} {b : Nat} {xs : List α} {k : Nat} (hlt : k < xs.length) {B : Nat} (hB : B ≤ b) (hbl : Below B w wr)
    (hrow : RowAt wr b (xs.length * sz)) (hfil : Filled sz R (b + 1) wr b xs k) (hb1 : Below wr.heap.size wr w1) {cs : List Value} (hcs : cs.length = sz) (hR : R wr.heap.size w1 cs xs[k]) :
    Below B w (putUp w1 b (k * sz) cs) ∧ RowAt (putUp w1 b (k * sz) cs) b (xs.length * sz) ∧ Filled sz R (b + 1) (putUp w1 b (k * sz) cs) b xs (k + 1) := by
  have hrow1 := hrow.below hb1
  have hblt := hrow.lt
  have hB' : B ≤ wr.heap.size := by omega
  refine ⟨putUp_below (hbl.trans (hb1.mono hB')) hB _ _, putUp_row hrow1 _ _, fun i hi hik => ?_⟩
  by_cases e : i = k
  · subst e
    have hfit : i * sz + cs.length ≤ xs.length * sz := by
      rw [hcs]
      have : (i + 1) * sz ≤ xs.length * sz := Nat.mul_le_mul_right _ hlt
      rw [Nat.add_mul] at this
      omega
    exact ⟨cs, hcs, fun j hj => putUp_in hrow1 _ _ hfit j hj, hK _ _ _ _ _ (putUp_kept (Kept.refl _ _ _) (Nat.lt_succ_self _) _ _) (hL _ _ _ _ _ (by omega) hR)⟩
  · obtain ⟨cs', hcs', hc', hR'⟩ := hfil i hi (by omega)
    refine ⟨cs', hcs', fun j hj => ?_, hK _ _ _ _ _ (putUp_kept (Kept.of_below hb1) (Nat.lt_succ_self _) _ _) hR'⟩
    have hlo : i * sz + j < k * sz := by
      have : (i + 1) * sz ≤ k * sz := Nat.mul_le_mul_right _ (by omega)
      rw [Nat.add_mul] at this
      omega
    rw [putUp_out _ _ _ _ _ (Or.inr (Or.inl hlo)), hb1.cell (p := ⟨b, _, none⟩) hblt]
    exact hc' j hj

/-- Below B nothing has turned, and no block made since is frozen. -/
structure BelF (B : Nat) (w w' : World) : Prop where
  below : Below B w w'
  free : ∀ k, B ≤ k → k < w'.heap.size → ∃ c t, w'.heap[k]? = some (.cells c t (0, 0))

theorem BelF.refl (w : World) : BelF w.heap.size w w := ⟨Below.refl _ _, fun k h1 h2 => absurd h2 (by omega)⟩
theorem BelF.alloc {B : Nat} {a w : World} (h : BelF B a w) (hB : B ≤ w.heap.size) (c : Array Value) {t : TypeId} : BelF B a (w.alloc (.cells c t)) := by
  refine ⟨h.below.alloc hB _, fun k h1 h2 => ?_⟩
  by_cases e : k < w.heap.size
  · obtain ⟨c1, t1, h3⟩ := h.free k h1 e
    exact ⟨c1, t1, (Below.heap_alloc _ _ _ e).trans h3⟩
  · have e2 : k = w.heap.size := by simp at h2; omega
    subst e2
    exact ⟨c, t, by show (w.heap.push _)[w.heap.size]? = _; rw [Array.getElem?_push_size]⟩
theorem BelF.setCell {B : Nat} {a w : World} (h : BelF B a w) {p : Addr} (hp : B ≤ p.block) (u : Value) : BelF B a (w.setCell p u) := by
  refine ⟨h.below.setCell hp _, fun k h1 h2 => ?_⟩
  have h2' : k < w.heap.size := by simpa [World.setCell] using h2
  obtain ⟨c1, t1, h3⟩ := h.free k h1 h2'
  by_cases e : k = p.block
  · subst e
    refine ⟨if p.spot.isSome then c1 else c1.setIfInBounds p.off u, t1, ?_⟩
    simp only [World.setCell, Array.getElem?_modify, if_true, h3, Option.map_some]
  · exact ⟨c1, t1, (Below.heap_setCell _ _ _ _ e).trans h3⟩
theorem BelF.and {B : Nat} {a b c : World} (h : BelF B a b) (k : BelF b.heap.size b c) (hB : B ≤ b.heap.size) : BelF B a c := by
  refine ⟨h.below.trans (k.below.mono hB), fun i h1 h2 => ?_⟩
  by_cases e : i < b.heap.size
  · obtain ⟨c1, t1, h3⟩ := h.free i h1 e
    exact ⟨c1, t1, (k.below.block i e).trans h3⟩
  · exact k.free i (by omega) h2
theorem putUp_belF {B : Nat} {w w' : World} (h : BelF B w w') {b : Nat} (hb : B ≤ b) (i : Nat) (cs : List Value) : BelF B w (putUp w' b i cs) := by
  induction cs generalizing w' i with
  | nil => exact h
  | cons c cs ih => exact ih (h.setCell (p := ⟨b, i, none⟩) hb c) (i + 1)
theorem fill_stepF {α : Type} {sz : Nat} {R : Nat → World → List Value → α → Prop} (hK : KeptBy R) (hL : Lowers R) {w wr w1 : World} {b : Nat} {xs : List α} {k : Nat} (hlt : k < xs.length) {B : Nat} (hB : B ≤ b) (hbl : BelF B w wr)
    (hrow : RowAt wr b (xs.length * sz)) (hfil : Filled sz R (b + 1) wr b xs k) (hb1 : BelF wr.heap.size wr w1) {cs : List Value} (hcs : cs.length = sz) (hR : R wr.heap.size w1 cs xs[k]) :
    BelF B w (putUp w1 b (k * sz) cs) ∧ RowAt (putUp w1 b (k * sz) cs) b (xs.length * sz) ∧ Filled sz R (b + 1) (putUp w1 b (k * sz) cs) b xs (k + 1) := by
  have hblt := hrow.lt
  have h := fill_step hK hL hlt hB hbl.below hrow hfil hb1.below hcs hR
  exact ⟨putUp_belF (hbl.and hb1 (by omega)) hB _ _, h.2⟩

theorem fill_none {α : Type} (sz : Nat) (R : Nat → World → List Value → α → Prop) (lo : Nat) (w : World) (b : Nat) (xs : List α) : Filled sz R lo w b xs 0 := fun _ _ h => absurd h (Nat.not_lt_zero _)

theorem fill_done {α : Type} {sz byt : Nat} {R : Nat → World → List Value → α → Prop} (hL : Lowers R) {wr : World} {b : Nat} {xs : List α} (hb : b < wr.heap.size) (h1 : Len (xs.length * byt)) (h2 : Len xs.length) (hfil : Filled sz R (b + 1) wr b xs xs.length) :
    SlAt sz byt R b wr (.slice (some ⟨b, 0, none⟩) xs.length xs.length) xs := by
  refine ⟨_, _, rfl, ⟨h1, Nat.le_refl _⟩, h2, fun i hi => ?_⟩
  obtain ⟨cs, hcs, hc, hR⟩ := hfil i hi hi
  exact ⟨b, 0, cs, rfl, Nat.le_refl _, hb, hcs, fun j hj => by rw [Nat.zero_add]; exact hc j hj, hL _ _ _ _ _ (Nat.le_succ _) hR⟩

end Go.Proofs.YtmglbkndjnflkaaGreatDoor
namespace Go.Proofs.YtmglbkndjnflkaaGreatDoor
open Go.RowKit
set_option linter.unusedSimpArgs false
set_option linter.unusedVariables false

/-- A row of one's own, one cell an element. -/
def OwnInts (w : World) (base g cap : Nat) (xs : List Int) : Prop := w.ownsRow base 3 1 (.slice (some ⟨g, 0, none⟩) xs.length cap) xs.length (xs.map (Value.int .i64))

theorem OwnInts.below {w w' : World} {base g cap : Nat} {xs : List Int} (h : OwnInts w base g cap xs) (hb : Below w.heap.size w w') : OwnInts w' base g cap xs := by
  have hlt := (World.ownsRow.lt h g rfl).2
  obtain ⟨h1, h2⟩ := h
  refine ⟨h1, ?_⟩
  rcases h2 with h2 | ⟨g', cap', cur, hv, hg, hh, r⟩
  · exact Or.inl h2
  · simp only [Value.slice.injEq, Option.some.injEq, Addr.mk.injEq] at hv
    obtain ⟨⟨rfl, _⟩, _, rfl⟩ := hv
    exact Or.inr ⟨g, cap, cur, rfl, hg, (hb.block g hlt).trans hh, r⟩
theorem OwnInts.cell {w : World} {base g cap : Nat} {xs : List Int} (h : OwnInts w base g cap xs) (i : Nat) (hi : i < xs.length) : w.cell? ⟨g, i, none⟩ = some ((Value.int .i64) xs[i]) := by
  have := World.ownsRow.cells h (g := g) rfl i ((Value.int .i64) xs[i]) (by simp [hi])
  rw [Addr.add_lit, Nat.zero_add] at this
  exact this
theorem OwnInts.lt {w : World} {base g cap : Nat} {xs : List Int} (h : OwnInts w base g cap xs) : g < w.heap.size := (World.ownsRow.lt h g rfl).2
theorem OwnInts.base {w : World} {base g cap : Nat} {xs : List Int} (h : OwnInts w base g cap xs) : base ≤ g := (World.ownsRow.lt h g rfl).1
theorem OwnInts.start (w : World) (base : Nat) (hb : base ≤ w.heap.size) : OwnInts (w.alloc (.cells #[] 3)) base w.heap.size 0 [] :=
  ⟨rfl, Or.inr ⟨_, _, #[], rfl, hb, Deep.blk_alloc_new _ _, Nat.le_refl _, Nat.zero_le _, rfl, rfl⟩⟩
theorem OwnInts.at {w : World} {base g cap : Nat} {xs : List Int} (h : OwnInts w base g cap xs) (hR : ∀ x, x ∈ xs → RInt 0 w [(Value.int .i64) x] x) (hn : xs.length * 8 ≤ 140737488355328) : SlAt 1 8 RInt 0 w (.slice (some ⟨g, 0, none⟩) xs.length cap) xs := by
  have hcap : xs.length ≤ cap := by
    obtain ⟨_, hh⟩ := h
    rcases hh with ⟨hh, _⟩ | ⟨g1, cap1, cur, hv, _, _, h2, _⟩
    · cases hh
    · simp only [Value.slice.injEq] at hv
      obtain ⟨_, _, rfl⟩ := hv
      exact h2
  refine ⟨_, cap, rfl, ⟨hn, hcap⟩, by unfold Len; omega, fun i hi => ⟨g, 0, [(Value.int .i64) xs[i]], rfl, Nat.zero_le _, h.lt, rfl, fun j hj => ?_, hR _ (List.getElem_mem hi)⟩⟩
  have hj0 : j = 0 := by simpa using hj
  subst hj0
  simp only [Nat.zero_add, Nat.mul_one, Nat.add_zero, List.getElem_cons_zero]
  exact h.cell i hi

theorem info_ownInts : (Tryz.prog.info? 3).map (fun i => (i.zero, i.size, i.bytes)) = some (some (.int .i64 0), 1, 8) := by kernel_rfl

/-- 'append(xs, x)' onto a row of one's own: the one element lies at the head of the block eb. -/
theorem wpList_append_oneInts (w : World) {ops : Array Oper} {rest : List Oper} {o : Oper} {a : Act} {Q : Exit → Act → World → Prop} (hgd : o.guard = none) (s x : Operand)
    (ho : o.op = .call { callee := .builtin .append, args := #[s, x], argTypes := #[37, 37] })
    (base g cap : Nat) (xs : List Int) (hs : a.eval s = .slice (some ⟨g, 0, none⟩) xs.length cap) (hown : OwnInts w base g cap xs)
    (eb : Nat) (y : Int) (hx : a.eval x = .slice (some ⟨eb, 0, none⟩) 1 1) (hy : w.cell? ⟨eb, 0, none⟩ = some ((Value.int .i64) y)) (hb : (xs.length + 1) * 8 ≤ 140737488355328) (hbase : base ≤ w.heap.size)
    (h : ∀ g' cap' w', OwnInts w' base g' cap' (xs ++ [y]) → w.grownBy w' (some g) → wpList Tryz.prog ops Q rest (a.put o.dst (.slice (some ⟨g', 0, none⟩) (xs.length + 1) cap')) w') : wpList Tryz.prog ops Q (o :: rest) a w := by
  obtain ⟨i, hi, hz0, hz1, hz2⟩ := info_parts info_ownInts
  refine wpList_append_own w hgd s x 37 ho base 3 i _ 1 8 Tryz.underlying37 hi hz0 hz1 hz2 rfl (by decide) _ xs.length (xs.map (Value.int .i64)) hs hown _ 1 1 [(Value.int .i64) y] hx rfl (fun j u hu => ?_) (fun u hu => ?_) (by simp [maxLen]; omega) hb hbase ?_
  · cases j with
    | zero =>
      simp at hu
      subst hu
      rw [Addr.add_lit, Nat.add_zero]
      exact hy
    | succ j => simp at hu
  · simp at hu
    subst hu
    rfl
  · intro v' w' h1 h2 h3
    obtain ⟨hl, hh⟩ := h1
    rcases hh with ⟨rfl, _⟩ | ⟨g', cap', cur, rfl, hr⟩
    · have := h3.1 rfl
      cases this.1
    · refine h g' cap' w' ⟨by simp, Or.inr ⟨g', cap', cur, by simp, ?_⟩⟩ h2
      simpa using hr

/-- 'append(xs, ys...)' onto a row of one's own. -/
theorem wpList_append_allInts (w : World) {ops : Array Oper} {rest : List Oper} {o : Oper} {a : Act} {Q : Exit → Act → World → Prop} (hgd : o.guard = none) (s x : Operand)
    (ho : o.op = .call { callee := .builtin .append, args := #[s, x], argTypes := #[37, 37] })
    (base g cap : Nat) (xs : List Int) (hs : a.eval s = .slice (some ⟨g, 0, none⟩) xs.length cap) (hown : OwnInts w base g cap xs)
    (xv : Value) (hx : a.eval x = xv) (ys : List Int) (hsl : SlAt 1 8 RInt 0 w xv ys) (hb : (xs.length + ys.length) * 8 ≤ 140737488355328) (hbase : base ≤ w.heap.size)
    (h : ∀ g' cap' w', OwnInts w' base g' cap' (xs ++ ys) → w.grownBy w' (some g) → wpList Tryz.prog ops Q rest (a.put o.dst (.slice (some ⟨g', 0, none⟩) (xs.length + ys.length) cap')) w') : wpList Tryz.prog ops Q (o :: rest) a w := by
  obtain ⟨i, hi, hz0, hz1, hz2⟩ := info_parts info_ownInts
  obtain ⟨ax, cx, rfl, _, hn, hel⟩ := hsl
  cases ax with
  | none =>
    have hy : ys = [] := by
      cases ys with
      | nil => rfl
      | cons y ys =>
        obtain ⟨b, o, cs, hbo, _⟩ := hel 0 (by simp)
        cases hbo
    subst hy
    refine wpList_plain hgd fun K hK => ?_
    have hcap : xs.length ≤ cap := by
      obtain ⟨_, hh⟩ := hown
      rcases hh with ⟨hh, _⟩ | ⟨g1, cap1, cur, hv, _, _, h2, _⟩
      · cases hh
      · simp only [Value.slice.injEq] at hv
        obtain ⟨_, _, rfl⟩ := hv
        exact h2
    have hrun := run_append_room_src (P := Tryz.prog) w 37 37 o.type 3 i Tryz.underlying37 hi g 0 xs.length cap (.slice none 0 cx) 0 [] (Src.ofNil w Tryz.underlying37 cx) (by omega) (fun j hj => by simp at hj) (fun j hj => by simp at hj)
    unfold Oper.wp execOp
    simp only [ho, resolve, invoke, builtin, Sem.run_bind, Sem.run_pure, Result.andThen_ok, List.map_toArray, List.map_cons, List.map_nil, hs, hx, hrun, List.length_nil]
    refine hK _ _ ?_
    have hsc : w.setCells g (0 + xs.length * i.size) [] = w := by simp [World.setCells]
    rw [hsc]
    have := h g cap w (by simpa using hown) (World.grownBy.refl w _)
    simpa using this
  | some ad =>
    have hcellA : ∀ j u, (ys.map (Value.int .i64))[j]? = some u → w.cell? (ad.add j) = some u := fun j u hu => by
      have hj : j < ys.length := by
        have := (List.getElem?_eq_some_iff.1 hu).1
        simpa using this
      obtain ⟨b, oo, cs, hbo, _, _, hl, hc, hR⟩ := hel j hj
      simp only [Option.some.injEq] at hbo
      subst hbo
      obtain ⟨rfl, _⟩ := hR
      have c0 := hc 0 (by simp)
      simp only [Nat.mul_one, Nat.add_zero, List.getElem_cons_zero] at c0
      rw [Addr.add_lit, c0]
      simp [hj] at hu
      rw [hu]
    refine wpList_append_own w hgd s x 37 ho base 3 i _ 1 8 Tryz.underlying37 hi hz0 hz1 hz2 rfl (by decide) _ xs.length (xs.map (Value.int .i64)) hs hown ad ys.length cx (ys.map (Value.int .i64)) hx (by simp) hcellA (fun u hu => ?_) (by simp [maxLen]; omega) hb hbase ?_
    · obtain ⟨y, _, rfl⟩ := List.mem_map.1 hu
      rfl
    · intro v' w' h1 h2 h3
      obtain ⟨hl, hh⟩ := h1
      rcases hh with ⟨rfl, _⟩ | ⟨g', cap', cur, rfl, hr⟩
      · have := h3.1 rfl
        cases this.1
      · refine h g' cap' w' ⟨by simp, Or.inr ⟨g', cap', cur, by simp, ?_⟩⟩ h2
        simpa using hr

/-- A row of one's own, one cell an element. -/
def OwnStrs (w : World) (base g cap : Nat) (xs : List ByteArray) : Prop := w.ownsRow base 9 1 (.slice (some ⟨g, 0, none⟩) xs.length cap) xs.length (xs.map Value.string)

theorem OwnStrs.below {w w' : World} {base g cap : Nat} {xs : List ByteArray} (h : OwnStrs w base g cap xs) (hb : Below w.heap.size w w') : OwnStrs w' base g cap xs := by
  have hlt := (World.ownsRow.lt h g rfl).2
  obtain ⟨h1, h2⟩ := h
  refine ⟨h1, ?_⟩
  rcases h2 with h2 | ⟨g', cap', cur, hv, hg, hh, r⟩
  · exact Or.inl h2
  · simp only [Value.slice.injEq, Option.some.injEq, Addr.mk.injEq] at hv
    obtain ⟨⟨rfl, _⟩, _, rfl⟩ := hv
    exact Or.inr ⟨g, cap, cur, rfl, hg, (hb.block g hlt).trans hh, r⟩
theorem OwnStrs.cell {w : World} {base g cap : Nat} {xs : List ByteArray} (h : OwnStrs w base g cap xs) (i : Nat) (hi : i < xs.length) : w.cell? ⟨g, i, none⟩ = some (Value.string xs[i]) := by
  have := World.ownsRow.cells h (g := g) rfl i (Value.string xs[i]) (by simp [hi])
  rw [Addr.add_lit, Nat.zero_add] at this
  exact this
theorem OwnStrs.lt {w : World} {base g cap : Nat} {xs : List ByteArray} (h : OwnStrs w base g cap xs) : g < w.heap.size := (World.ownsRow.lt h g rfl).2
theorem OwnStrs.base {w : World} {base g cap : Nat} {xs : List ByteArray} (h : OwnStrs w base g cap xs) : base ≤ g := (World.ownsRow.lt h g rfl).1
theorem OwnStrs.start (w : World) (base : Nat) (hb : base ≤ w.heap.size) : OwnStrs (w.alloc (.cells #[] 9)) base w.heap.size 0 [] :=
  ⟨rfl, Or.inr ⟨_, _, #[], rfl, hb, Deep.blk_alloc_new _ _, Nat.le_refl _, Nat.zero_le _, rfl, rfl⟩⟩
theorem OwnStrs.at {w : World} {base g cap : Nat} {xs : List ByteArray} (h : OwnStrs w base g cap xs) (hR : ∀ x, x ∈ xs → RStr 0 w [Value.string x] x) (hn : xs.length * 16 ≤ 140737488355328) : SlAt 1 16 RStr 0 w (.slice (some ⟨g, 0, none⟩) xs.length cap) xs := by
  have hcap : xs.length ≤ cap := by
    obtain ⟨_, hh⟩ := h
    rcases hh with ⟨hh, _⟩ | ⟨g1, cap1, cur, hv, _, _, h2, _⟩
    · cases hh
    · simp only [Value.slice.injEq] at hv
      obtain ⟨_, _, rfl⟩ := hv
      exact h2
  refine ⟨_, cap, rfl, ⟨hn, hcap⟩, by unfold Len; omega, fun i hi => ⟨g, 0, [Value.string xs[i]], rfl, Nat.zero_le _, h.lt, rfl, fun j hj => ?_, hR _ (List.getElem_mem hi)⟩⟩
  have hj0 : j = 0 := by simpa using hj
  subst hj0
  simp only [Nat.zero_add, Nat.mul_one, Nat.add_zero, List.getElem_cons_zero]
  exact h.cell i hi

theorem info_ownStrs : (Tryz.prog.info? 9).map (fun i => (i.zero, i.size, i.bytes)) = some (some (.string ByteArray.empty), 1, 16) := by kernel_rfl

/-- 'append(xs, x)' onto a row of one's own: the one element lies at the head of the block eb. -/
theorem wpList_append_oneStrs (w : World) {ops : Array Oper} {rest : List Oper} {o : Oper} {a : Act} {Q : Exit → Act → World → Prop} (hgd : o.guard = none) (s x : Operand)
    (ho : o.op = .call { callee := .builtin .append, args := #[s, x], argTypes := #[35, 35] })
    (base g cap : Nat) (xs : List ByteArray) (hs : a.eval s = .slice (some ⟨g, 0, none⟩) xs.length cap) (hown : OwnStrs w base g cap xs)
    (eb : Nat) (y : ByteArray) (hx : a.eval x = .slice (some ⟨eb, 0, none⟩) 1 1) (hy : w.cell? ⟨eb, 0, none⟩ = some (Value.string y)) (hb : (xs.length + 1) * 16 ≤ 140737488355328) (hbase : base ≤ w.heap.size)
    (h : ∀ g' cap' w', OwnStrs w' base g' cap' (xs ++ [y]) → w.grownBy w' (some g) → wpList Tryz.prog ops Q rest (a.put o.dst (.slice (some ⟨g', 0, none⟩) (xs.length + 1) cap')) w') : wpList Tryz.prog ops Q (o :: rest) a w := by
  obtain ⟨i, hi, hz0, hz1, hz2⟩ := info_parts info_ownStrs
  refine wpList_append_own w hgd s x 35 ho base 9 i _ 1 16 Tryz.underlying35 hi hz0 hz1 hz2 rfl (by decide) _ xs.length (xs.map Value.string) hs hown _ 1 1 [Value.string y] hx rfl (fun j u hu => ?_) (fun u hu => ?_) (by simp [maxLen]; omega) hb hbase ?_
  · cases j with
    | zero =>
      simp at hu
      subst hu
      rw [Addr.add_lit, Nat.add_zero]
      exact hy
    | succ j => simp at hu
  · simp at hu
    subst hu
    rfl
  · intro v' w' h1 h2 h3
    obtain ⟨hl, hh⟩ := h1
    rcases hh with ⟨rfl, _⟩ | ⟨g', cap', cur, rfl, hr⟩
    · have := h3.1 rfl
      cases this.1
    · refine h g' cap' w' ⟨by simp, Or.inr ⟨g', cap', cur, by simp, ?_⟩⟩ h2
      simpa using hr

/-- 'append(xs, ys...)' onto a row of one's own. -/
theorem wpList_append_allStrs (w : World) {ops : Array Oper} {rest : List Oper} {o : Oper} {a : Act} {Q : Exit → Act → World → Prop} (hgd : o.guard = none) (s x : Operand)
    (ho : o.op = .call { callee := .builtin .append, args := #[s, x], argTypes := #[35, 35] })
    (base g cap : Nat) (xs : List ByteArray) (hs : a.eval s = .slice (some ⟨g, 0, none⟩) xs.length cap) (hown : OwnStrs w base g cap xs)
    (xv : Value) (hx : a.eval x = xv) (ys : List ByteArray) (hsl : SlAt 1 16 RStr 0 w xv ys) (hb : (xs.length + ys.length) * 16 ≤ 140737488355328) (hbase : base ≤ w.heap.size)
    (h : ∀ g' cap' w', OwnStrs w' base g' cap' (xs ++ ys) → w.grownBy w' (some g) → wpList Tryz.prog ops Q rest (a.put o.dst (.slice (some ⟨g', 0, none⟩) (xs.length + ys.length) cap')) w') : wpList Tryz.prog ops Q (o :: rest) a w := by
  obtain ⟨i, hi, hz0, hz1, hz2⟩ := info_parts info_ownStrs
  obtain ⟨ax, cx, rfl, _, hn, hel⟩ := hsl
  cases ax with
  | none =>
    have hy : ys = [] := by
      cases ys with
      | nil => rfl
      | cons y ys =>
        obtain ⟨b, o, cs, hbo, _⟩ := hel 0 (by simp)
        cases hbo
    subst hy
    refine wpList_plain hgd fun K hK => ?_
    have hcap : xs.length ≤ cap := by
      obtain ⟨_, hh⟩ := hown
      rcases hh with ⟨hh, _⟩ | ⟨g1, cap1, cur, hv, _, _, h2, _⟩
      · cases hh
      · simp only [Value.slice.injEq] at hv
        obtain ⟨_, _, rfl⟩ := hv
        exact h2
    have hrun := run_append_room_src (P := Tryz.prog) w 35 35 o.type 9 i Tryz.underlying35 hi g 0 xs.length cap (.slice none 0 cx) 0 [] (Src.ofNil w Tryz.underlying35 cx) (by omega) (fun j hj => by simp at hj) (fun j hj => by simp at hj)
    unfold Oper.wp execOp
    simp only [ho, resolve, invoke, builtin, Sem.run_bind, Sem.run_pure, Result.andThen_ok, List.map_toArray, List.map_cons, List.map_nil, hs, hx, hrun, List.length_nil]
    refine hK _ _ ?_
    have hsc : w.setCells g (0 + xs.length * i.size) [] = w := by simp [World.setCells]
    rw [hsc]
    have := h g cap w (by simpa using hown) (World.grownBy.refl w _)
    simpa using this
  | some ad =>
    have hcellA : ∀ j u, (ys.map Value.string)[j]? = some u → w.cell? (ad.add j) = some u := fun j u hu => by
      have hj : j < ys.length := by
        have := (List.getElem?_eq_some_iff.1 hu).1
        simpa using this
      obtain ⟨b, oo, cs, hbo, _, _, hl, hc, hR⟩ := hel j hj
      simp only [Option.some.injEq] at hbo
      subst hbo
      obtain ⟨rfl, _⟩ := hR
      have c0 := hc 0 (by simp)
      simp only [Nat.mul_one, Nat.add_zero, List.getElem_cons_zero] at c0
      rw [Addr.add_lit, c0]
      simp [hj] at hu
      rw [hu]
    refine wpList_append_own w hgd s x 35 ho base 9 i _ 1 16 Tryz.underlying35 hi hz0 hz1 hz2 rfl (by decide) _ xs.length (xs.map Value.string) hs hown ad ys.length cx (ys.map Value.string) hx (by simp) hcellA (fun u hu => ?_) (by simp [maxLen]; omega) hb hbase ?_
    · obtain ⟨y, _, rfl⟩ := List.mem_map.1 hu
      rfl
    · intro v' w' h1 h2 h3
      obtain ⟨hl, hh⟩ := h1
      rcases hh with ⟨rfl, _⟩ | ⟨g', cap', cur, rfl, hr⟩
      · have := h3.1 rfl
        cases this.1
      · refine h g' cap' w' ⟨by simp, Or.inr ⟨g', cap', cur, by simp, ?_⟩⟩ h2
        simpa using hr

theorem box_cell {B : Nat} {w w' : World} {cs : Array Value} {t : TypeId} (h : Below (w.heap.size + 1) (w.alloc (.cells cs t)) w') (j : Nat) : w'.cell? ⟨w.heap.size, j, none⟩ = cs[j]? := by
  rw [h.cell (p := ⟨w.heap.size, j, none⟩) (Nat.lt_succ_self _), World.cell?_alloc_at _ _ _ _ rfl]

theorem box_of {w w' : World} {cs : Array Value} {t : TypeId} (h : Below (w.alloc (.cells cs t)).heap.size (w.alloc (.cells cs t)) w') : Below (w.heap.size + 1) (w.alloc (.cells cs t)) w' := by simpa using h

theorem grow_below {B : Nat} {w0 w w' : World} {g : Nat} (h : Below B w0 w) (hg : w.grownBy w' (some g)) (hB : B ≤ w.heap.size) (hr : B ≤ g) : Below B w0 w' :=
  h.grown hg hB (fun k e => by simp only [Option.some.injEq] at e; omega)

end Go.Proofs.YtmglbkndjnflkaaGreatDoor
namespace Go.Proofs.YtmglbkndjnflkaaGreatDoor
open Go.RowKit
set_option linter.unusedSimpArgs false
set_option linter.unusedVariables false

/-! ### A row of the call's own, by its block -/
def BlkAt (w : World) (g : Nat) (e : TypeId) (cs : Array Value) : Prop := w.heap[g]? = some (.cells cs e (0, 0))
theorem BlkAt.lt {w : World} {g : Nat} {e : TypeId} {cs : Array Value} (h : BlkAt w g e cs) : g < w.heap.size := (Array.getElem?_eq_some_iff.1 h).1
theorem BlkAt.cell {w : World} {g : Nat} {e : TypeId} {cs : Array Value} (h : BlkAt w g e cs) {i : Nat} {v : Value} (hi : cs[i]? = some v) : w.cell? ⟨g, i, none⟩ = some v := by
  unfold BlkAt at h
  simp [World.cell?, h, hi]
theorem BlkAt.free {w : World} {g : Nat} {e : TypeId} {cs : Array Value} (h : BlkAt w g e cs) (i : Nat) : w.frozen? ⟨g, i, none⟩ = false := by
  unfold BlkAt at h
  simp [World.frozen?, h]
theorem BlkAt.below {w w' : World} {g B : Nat} {e : TypeId} {cs : Array Value} (h : BlkAt w g e cs) (hb : Below B w w') (hg : g < B) : BlkAt w' g e cs := (hb.block g hg).trans h
theorem BlkAt.set {w : World} {g : Nat} {e : TypeId} {cs : Array Value} (h : BlkAt w g e cs) (i : Nat) (v : Value) : BlkAt (w.setCell ⟨g, i, none⟩ v) g e (cs.setIfInBounds i v) := by
  unfold BlkAt at *
  simp only [World.setCell, Array.getElem?_modify, if_true, h, Option.map_some]
  simp

theorem wpList_make_row {P : Program} (w : World) {ops : Array Oper} {rest : List Oper} {o : Oper} {a : Act} {Q : Exit → Act → World → Prop}
    (hg : o.guard = none) (l c : Operand) (t : TypeId) (hop : o.op = Op.makeSlice t l c)
    (e : TypeId) (z : Value) (by' : Nat) (h1 : P.underlying t = some (.slice e)) (h2 : (P.info? e).map (fun i => (i.zero, i.size, i.bytes)) = some (some z, 1, by')) (h3 : by' ≤ 100)
    (L : Int) (n : Nat) (hl : a.eval l = .int .i64 L) (hc : a.eval c = .int .i64 L) (hL : L = (n : Int)) (hn : n ≤ 1000000)
    (hK : ∀ w' cs, BlkAt w' w.heap.size e cs → cs.size = n → Below w.heap.size w w' → wpList P ops Q rest (a.put o.dst (.slice (some ⟨w.heap.size, 0, none⟩) n n)) w') :
    wpList P ops Q (o :: rest) a w := by
  refine wpList_plain hg fun K hK' => ?_
  obtain ⟨i, hi, hz, hs, hb⟩ := info_parts h2
  have hb' : (i.bytes : Int) * (n : Int) ≤ 281474976710656 := by
    have h : i.bytes * n ≤ 100 * 1000000 := Nat.mul_le_mul (by omega) hn
    have h' : ((i.bytes * n : Nat) : Int) ≤ 281474976710656 := by omega
    rwa [Int.natCast_mul] at h'
  have hr := run_make (P := P) w t e i z h1 hi hz .i64 .i64 n n (by omega) (Int.le_refl _) hb' (by omega)
  simp only [Int.toNat_natCast] at hr
  subst hL
  unfold Oper.wp
  simp [execOp, hop, hl, hc, hr, Result.andThen]
  refine hK' _ _ (hK _ (madeCells z.cells (n * i.size)) ?_ ?_ ((Below.refl _ _).alloc (Nat.le_refl _) _))
  · show (w.heap.push _)[w.heap.size]? = _
    rw [Array.getElem?_push_size]
  · rw [size_madeCells, hs, Nat.mul_one]

theorem blk_box (w : World) (cs : Array Value) (e : TypeId) : BlkAt (w.alloc (.cells cs e)) w.heap.size e cs := by
  show (w.heap.push _)[w.heap.size]? = _
  rw [Array.getElem?_push_size]

theorem BlkAt.set3 {w : World} {g : Nat} {e : TypeId} {a b c x y z : Value} (h : BlkAt w g e #[a, b, c]) : BlkAt (((w.setCell ⟨g, 0, none⟩ x).setCell ⟨g, 1, none⟩ y).setCell ⟨g, 2, none⟩ z) g e #[x, y, z] := by
  have := ((h.set 0 x).set 1 y).set 2 z
  simpa using this

end Go.Proofs.YtmglbkndjnflkaaGreatDoor
namespace Go.Proofs.YtmglbkndjnflkaaGreatDoor
open Go.RowKit
set_option linter.unusedSimpArgs false
set_option linter.unusedVariables false

/-- A flat element: its type, its slice's, its cells. -/
structure ElF (P : Program) (α : Type) where
  T : TypeId
  ST : TypeId
  sz : Nat
  byt : Nat
  f : α → List Value
  z : Value
  hT : P.underlying ST = some (.slice T)
  hi : (P.info? T).map (fun i => (i.zero, i.size, i.bytes)) = some (some z, sz, byt)
  hz : z.cells.size = sz
  hf : ∀ x, (f x).length = sz
  h1 : ∀ x u, u ∈ f x → u.oneCell' = true
  hsz : 0 < sz
  hby : 0 < byt

theorem flat_get {α β : Type} (f : α → List β) (sz : Nat) (hf : ∀ x, (f x).length = sz) : ∀ (xs : List α) (i : Nat) (hi : i < xs.length) (j : Nat), j < sz → (xs.flatMap f)[i * sz + j]? = (f xs[i])[j]?
  | x :: xs, 0, _, j, hj => by
    rw [List.flatMap_cons, Nat.zero_mul, Nat.zero_add, List.getElem?_append_left (by rw [hf]; exact hj)]
    rfl
  | x :: xs, i + 1, hi, j, hj => by
    rw [List.flatMap_cons, List.getElem?_append_right (by rw [hf, Nat.add_mul]; omega), hf]
    have e : (i + 1) * sz + j - sz = i * sz + j := by rw [Nat.add_mul]; omega
    rw [e, flat_get f sz hf xs i (by simpa using hi) j hj]
    rfl
theorem flat_len {α β : Type} (f : α → List β) (sz : Nat) (hf : ∀ x, (f x).length = sz) : ∀ (xs : List α), (xs.flatMap f).length = xs.length * sz
  | [] => by simp
  | x :: xs => by
    rw [List.flatMap_cons, List.length_append, hf, flat_len f sz hf xs, List.length_cons, Nat.add_mul]
    omega

section
variable {P : Program} {α : Type} (E : ElF P α)

/-- The slice v is a list of one's own. -/
def OwnV (w : World) (base : Nat) (v : Value) (xs : List α) : Prop := w.ownsRow base E.T E.sz v xs.length (xs.flatMap E.f)

variable {E}
theorem OwnV.nil (w : World) (base : Nat) : OwnV E w base (.slice none 0 0) [] := ⟨by simp, Or.inl ⟨rfl, rfl⟩⟩
theorem OwnV.start (w : World) (base : Nat) (hb : base ≤ w.heap.size) : OwnV E (w.alloc (.cells #[] E.T)) base (.slice (some ⟨w.heap.size, 0, none⟩) 0 0) [] :=
  ⟨by simp, Or.inr ⟨_, _, #[], rfl, hb, Deep.blk_alloc_new _ _, Nat.le_refl _, Nat.zero_le _, by simp, by simp⟩⟩
theorem OwnV.below {w w' : World} {base : Nat} {v : Value} {xs : List α} (h : OwnV E w base v xs) (hb : Below w.heap.size w w') : OwnV E w' base v xs := by
  obtain ⟨h1, h2⟩ := h
  refine ⟨h1, ?_⟩
  rcases h2 with h2 | ⟨g, cap, cur, hv, hg, hh, r⟩
  · exact Or.inl h2
  · exact Or.inr ⟨g, cap, cur, hv, hg, (hb.block g (Array.getElem?_eq_some_iff.1 hh).1).trans hh, r⟩
theorem OwnV.shape {w : World} {base : Nat} {v : Value} {xs : List α} (h : OwnV E w base v xs) : (v = .slice none 0 0 ∧ xs = []) ∨ ∃ g cap, v = .slice (some ⟨g, 0, none⟩) xs.length cap ∧ base ≤ g ∧ g < w.heap.size ∧ xs.length ≤ cap := by
  obtain ⟨_, h2⟩ := h
  rcases h2 with ⟨rfl, h2⟩ | ⟨g, cap, cur, hv, hg, hh, hc, _⟩
  · exact Or.inl ⟨rfl, List.eq_nil_of_length_eq_zero h2⟩
  · exact Or.inr ⟨g, cap, hv, hg, (Array.getElem?_eq_some_iff.1 hh).1, hc⟩
theorem OwnV.slice {w : World} {base : Nat} {v : Value} {xs : List α} (h : OwnV E w base v xs) : ∃ a cap, v = .slice a xs.length cap := by
  rcases h.shape with ⟨rfl, rfl⟩ | ⟨g, cap, rfl, _⟩
  · exact ⟨_, _, rfl⟩
  · exact ⟨_, _, rfl⟩
theorem OwnV.block {w : World} {base : Nat} {v : Value} {xs : List α} (h : OwnV E w base v xs) : ∀ g, v.ownBlock = some g → base ≤ g := by
  rcases h.shape with ⟨rfl, rfl⟩ | ⟨g, cap, rfl, hb, _⟩
  · intro g hg; cases hg
  · intro g' hg; cases hg; exact hb
theorem OwnV.grown {w0 w w' : World} {B base : Nat} {v : Value} {xs : List α} (h : OwnV E w base v xs) (hb : Below B w0 w) (hg : w.grownBy w' v.ownBlock) (hB : B ≤ w.heap.size) (hr : B ≤ base) : Below B w0 w' :=
  hb.grown hg hB (fun k e => Nat.le_trans hr (h.block k e))
theorem OwnV.at {R : Nat → World → List Value → α → Prop} {w : World} {base : Nat} {v : Value} {xs : List α} (h : OwnV E w base v xs) (hR : ∀ x, x ∈ xs → R 0 w (E.f x) x) (hn : xs.length * E.byt ≤ 140737488355328) : SlAt E.sz E.byt R 0 w v xs := by
  have hlen : xs.length ≤ 140737488355328 := Nat.le_trans (Nat.le_mul_of_pos_right _ E.hby) hn
  have h' := h
  rcases h.shape with ⟨rfl, rfl⟩ | ⟨g, cap, rfl, hb, hlt, hcap⟩
  · exact ⟨none, 0, rfl, ⟨by simp [Len], Nat.le_refl _⟩, by simp [Len], fun i hi => absurd hi (Nat.not_lt_zero _)⟩
  · refine ⟨_, cap, rfl, ⟨hn, hcap⟩, hlen, fun i hi => ⟨g, 0, E.f xs[i], rfl, Nat.zero_le _, hlt, E.hf _, fun j hj => ?_, hR _ (List.getElem_mem hi)⟩⟩
    have hjs : j < E.sz := by rw [← E.hf xs[i]]; exact hj
    have := World.ownsRow.cells h' (g := g) rfl (i * E.sz + j) (E.f xs[i])[j] (by rw [flat_get E.f E.sz E.hf xs i hi j hjs]; simp [hj])
    rw [Addr.add_lit] at this
    rw [← this]
    congr 2
    omega

/-- 'append(xs, y)': the one element lies at the head of the block eb. -/
theorem wpList_append_oneF (E : ElF P α) (w : World) {ops : Array Oper} {rest : List Oper} {o : Oper} {a : Act} {Q : Exit → Act → World → Prop} (hgd : o.guard = none) (s x : Operand)
    (ho : o.op = .call { callee := .builtin .append, args := #[s, x], argTypes := #[E.ST, E.ST] })
    (base : Nat) (v : Value) (xs : List α) (hs : a.eval s = v) (hown : OwnV E w base v xs)
    (eb : Nat) (y : α) (hx : a.eval x = .slice (some ⟨eb, 0, none⟩) 1 1) (hy : ∀ j u, (E.f y)[j]? = some u → w.cell? ⟨eb, j, none⟩ = some u) (hb : (xs.length + 1) * E.byt ≤ 140737488355328) (hbase : base ≤ w.heap.size)
    (h : ∀ v' w', OwnV E w' base v' (xs ++ [y]) → w.grownBy w' v.ownBlock → wpList P ops Q rest (a.put o.dst v') w') : wpList P ops Q (o :: rest) a w := by
  obtain ⟨i, hi, hz0, hz1, hz2⟩ := info_parts E.hi
  have hlen : xs.length + 1 ≤ 140737488355328 := Nat.le_trans (Nat.le_mul_of_pos_right _ E.hby) hb
  refine wpList_append_own w hgd s x E.ST ho base E.T i _ E.sz E.byt E.hT hi hz0 hz1 hz2 E.hz E.hsz v xs.length (xs.flatMap E.f) hs hown _ 1 1 (E.f y) hx (by rw [E.hf]; omega) (fun j u hu => ?_) (E.h1 y) (by simp [maxLen]; omega) hb hbase ?_
  · rw [Addr.add_lit, Nat.zero_add]
    exact hy j u hu
  · intro v' w' h1 h2 h3
    refine h v' w' ?_ h2
    unfold OwnV
    rw [List.length_append, List.flatMap_append]
    simpa using h1

/-- 'append(xs, ys...)', xs not nil. -/
theorem wpList_append_allF (E : ElF P α) {R : Nat → World → List Value → α → Prop} (hRf : ∀ w cs x, R 0 w cs x → cs = E.f x) (w : World) {ops : Array Oper} {rest : List Oper} {o : Oper} {a : Act} {Q : Exit → Act → World → Prop} (hgd : o.guard = none) (s x : Operand)
    (ho : o.op = .call { callee := .builtin .append, args := #[s, x], argTypes := #[E.ST, E.ST] })
    (base g cap : Nat) (xs : List α) (hs : a.eval s = .slice (some ⟨g, 0, none⟩) xs.length cap) (hown : OwnV E w base (.slice (some ⟨g, 0, none⟩) xs.length cap) xs)
    (xv : Value) (hx : a.eval x = xv) (ys : List α) (hsl : SlAt E.sz E.byt R 0 w xv ys) (hb : (xs.length + ys.length) * E.byt ≤ 140737488355328) (hbase : base ≤ w.heap.size)
    (h : ∀ g' cap' w', OwnV E w' base (.slice (some ⟨g', 0, none⟩) (xs.length + ys.length) cap') (xs ++ ys) → w.grownBy w' (some g) → wpList P ops Q rest (a.put o.dst (.slice (some ⟨g', 0, none⟩) (xs.length + ys.length) cap')) w') : wpList P ops Q (o :: rest) a w := by
  obtain ⟨i, hi, hz0, hz1, hz2⟩ := info_parts E.hi
  obtain ⟨ax, cx, rfl, _, hn, hel⟩ := hsl
  have hlen : xs.length + ys.length ≤ 140737488355328 := Nat.le_trans (Nat.le_mul_of_pos_right _ E.hby) hb
  have hcap : xs.length ≤ cap := by
    rcases hown.shape with ⟨hh, _⟩ | ⟨g1, cap1, hv, _, _, h2⟩
    · cases hh
    · simp only [Value.slice.injEq] at hv
      obtain ⟨_, _, rfl⟩ := hv
      exact h2
  cases ax with
  | none =>
    have hy : ys = [] := by
      cases ys with
      | nil => rfl
      | cons y ys =>
        obtain ⟨b, o, cs, hbo, _⟩ := hel 0 (by simp)
        cases hbo
    subst hy
    refine wpList_plain hgd fun K hK => ?_
    have hrun := run_append_room_src (P := P) w E.ST E.ST o.type E.T i E.hT hi g 0 xs.length cap (.slice none 0 cx) 0 [] (Src.ofNil w E.hT cx) (by omega) (fun j hj => by simp at hj) (fun j hj => by simp at hj)
    unfold Oper.wp execOp
    simp only [ho, resolve, invoke, builtin, Sem.run_bind, Sem.run_pure, Result.andThen_ok, List.map_toArray, List.map_cons, List.map_nil, hs, hx, hrun, List.length_nil]
    refine hK _ _ ?_
    have hsc : w.setCells g (0 + xs.length * i.size) [] = w := by simp [World.setCells]
    rw [hsc]
    have := h g cap w (by simpa using hown) (World.grownBy.refl w _)
    simpa using this
  | some ad =>
    have hcellA : ∀ j u, (ys.flatMap E.f)[j]? = some u → w.cell? (ad.add j) = some u := fun j u hu => by
      have hj : j < ys.length * E.sz := by
        have := (List.getElem?_eq_some_iff.1 hu).1
        rwa [flat_len E.f E.sz E.hf] at this
      have hsz := E.hsz
      have hdiv : j / E.sz < ys.length := Nat.div_lt_of_lt_mul (by rw [Nat.mul_comm]; exact hj)
      have hmod : j % E.sz < E.sz := Nat.mod_lt _ hsz
      have hjj : j / E.sz * E.sz + j % E.sz = j := by rw [Nat.mul_comm]; exact Nat.div_add_mod j E.sz
      obtain ⟨b, oo, cs, hbo, _, _, hl, hc, hR⟩ := hel (j / E.sz) hdiv
      simp only [Option.some.injEq] at hbo
      subst hbo
      have ecs := hRf _ _ _ hR
      subst ecs
      have hg := flat_get E.f E.sz E.hf ys (j / E.sz) hdiv (j % E.sz) hmod
      rw [hjj, hu] at hg
      obtain ⟨hjl, hju⟩ := List.getElem?_eq_some_iff.1 hg.symm
      have hcc := hc (j % E.sz) hjl
      rw [hju] at hcc
      rw [Addr.add_lit, ← hcc]
      congr 2
      omega
    refine wpList_append_own w hgd s x E.ST ho base E.T i _ E.sz E.byt E.hT hi hz0 hz1 hz2 E.hz E.hsz _ xs.length (xs.flatMap E.f) hs hown ad ys.length cx (ys.flatMap E.f) hx (flat_len E.f E.sz E.hf ys) hcellA (fun u hu => ?_) (by simp [maxLen]; omega) hb hbase ?_
    · obtain ⟨y, _, hy⟩ := List.mem_flatMap.1 hu
      exact E.h1 y u hy
    · intro v' w' h1 h2 h3
      obtain ⟨hl, hh⟩ := h1
      rcases hh with ⟨rfl, _⟩ | ⟨g', cap', cur, rfl, hr⟩
      · have := h3.1 rfl
        cases this.1
      · refine h g' cap' w' ⟨?_, Or.inr ⟨g', cap', cur, by rw [List.length_append], ?_⟩⟩ h2
        · rw [List.length_append, List.flatMap_append]
          exact hl
        · rw [List.length_append, List.flatMap_append]
          exact hr
end

def elItem : ElF Tryz.prog DItem where
  T := 88
  ST := 44
  sz := 3
  byt := 32
  f := fun t => [.int .i64 t.op, .int .i64 t.val, .string t.name]
  z := .agg #[.int .i64 0, .int .i64 0, .string ByteArray.empty]
  hT := Tryz.underlying44
  hi := by kernel_rfl
  hz := rfl
  hf := fun _ => rfl
  h1 := fun c u hu => by
    simp only [List.mem_cons, List.not_mem_nil, or_false] at hu
    rcases hu with rfl | rfl | rfl <;> rfl
  hsz := by decide
  hby := by decide

def elInt : ElF Tryz.prog Int where
  T := 3
  ST := 37
  sz := 1
  byt := 8
  f := fun t => [.int .i64 t]
  z := .int .i64 0
  hT := Tryz.underlying37
  hi := by kernel_rfl
  hz := rfl
  hf := fun _ => rfl
  h1 := fun c u hu => by
    simp only [List.mem_cons, List.not_mem_nil, or_false] at hu
    rcases hu with rfl
    rfl
  hsz := by decide
  hby := by decide

def elStr : ElF Tryz.prog ByteArray where
  T := 9
  ST := 35
  sz := 1
  byt := 16
  f := fun t => [.string t]
  z := .string ByteArray.empty
  hT := Tryz.underlying35
  hi := by kernel_rfl
  hz := rfl
  hf := fun _ => rfl
  h1 := fun c u hu => by
    simp only [List.mem_cons, List.not_mem_nil, or_false] at hu
    rcases hu with rfl
    rfl
  hsz := by decide
  hby := by decide

end Go.Proofs.YtmglbkndjnflkaaGreatDoor
