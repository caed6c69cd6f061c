import Derived.Test.YtlgeioedgaajoaaGreatDoorData
namespace Go.Proofs.YtlgeioedgaajoaaGreatDoor
open Go.RowKit

/-- The cells cs stored into block b from place i on. -/
def putCells (w : World) (b : Nat) : Nat → List Value → World
  | _, [] => w
  | i, c :: cs => (putCells w b (i + 1) cs).setCell ⟨b, i, none⟩ c

/-- .. in the order of the text. -/
def putUp (w : World) (b : Nat) : Nat → List Value → World
  | _, [] => w
  | i, c :: cs => putUp (w.setCell ⟨b, i, none⟩ c) b (i + 1) cs

theorem putUp_row {w : World} {b n : Nat} (h : RowAt w b n) (i : Nat) (cs : List Value) : RowAt (putUp w b i cs) b n := by
  induction cs generalizing w i with
  | nil => exact h
  | cons c cs ih => exact ih (h.set i c) (i + 1)

theorem cell_set_other (w : World) (b i : Nat) (u : Value) (p : Addr) (h : p.block ≠ b ∨ p.off ≠ i) : (w.setCell ⟨b, i, none⟩ u).cell? p = w.cell? p := by
  simp only [World.cell?, World.setCell, Array.getElem?_modify]
  by_cases hb : p.block = b
  · have hi : p.off ≠ i := by rcases h with h | h; exact absurd hb h; exact h
    subst hb
    simp only [if_true]
    cases hh : w.heap[p.block]? with
    | none => simp
    | some o =>
      cases o with
      | cells c t f =>
        simp [Ne.symm hi]
      | _ => simp
  · rw [if_neg (fun h => hb h.symm)]

theorem putUp_out (w : World) (b i : Nat) (cs : List Value) (p : Addr) (h : p.block ≠ b ∨ p.off < i ∨ i + cs.length ≤ p.off) : (putUp w b i cs).cell? p = w.cell? p := by
  induction cs generalizing w i with
  | nil => rfl
  | cons c cs ih =>
    simp only [putUp]
    rw [ih _ _ (by simp only [List.length_cons] at h; omega)]
    exact cell_set_other _ _ _ _ _ (by simp only [List.length_cons] at h; omega)

theorem cell_set_self {w : World} {b n : Nat} (h : RowAt w b n) {i : Nat} (hi : i < n) (u : Value) : (w.setCell ⟨b, i, none⟩ u).cell? ⟨b, i, none⟩ = some u := by
  obtain ⟨c, t, hb, hn⟩ := h
  simp [World.cell?, World.setCell, Array.getElem?_modify, hb, hn, hi]

theorem putUp_in {w : World} {b n : Nat} (h : RowAt w b n) (i : Nat) (cs : List Value) (hl : i + cs.length ≤ n) (j : Nat) (hj : j < cs.length) : (putUp w b i cs).cell? ⟨b, i + j, none⟩ = some cs[j] := by
  induction cs generalizing w i j with
  | nil => exact absurd hj (Nat.not_lt_zero _)
  | cons c cs ih =>
    simp only [List.length_cons] at hl hj
    simp only [putUp]
    cases j with
    | zero =>
      rw [putUp_out _ _ _ _ _ (Or.inr (Or.inl (by simp)))]
      exact cell_set_self h (by omega) c
    | succ j =>
      have := ih (h.set i c) (i + 1) (by omega) j (by omega)
      rw [show i + (j + 1) = i + 1 + j from by omega]
      simpa using this

theorem putUp_kept {lo hi : Nat} {w w' : World} (h : Kept lo hi w w') {b : Nat} (hb : b < lo) (i : Nat) (cs : List Value) : Kept lo hi w (putUp w' b i cs) := by
  induction cs generalizing w' i with
  | nil => exact h
  | cons c cs ih => exact ih (h.setCell (p := ⟨b, i, none⟩) hb c) (i + 1)

theorem putUp_below {B : Nat} {w w' : World} (h : Below B w w') {b : Nat} (hb : B ≤ b) (i : Nat) (cs : List Value) : Below B w (putUp w' b i cs) := by
  induction cs generalizing w' i with
  | nil => exact h
  | cons c cs ih => exact ih (h.setCell (p := ⟨b, i, none⟩) hb c) (i + 1)

/-- One element more. -/
theorem fill_step {α : Type} {sz : Nat} {R : Nat → World → List Value → α → Prop} (hK : KeptBy R) (hL : Lowers R) {w wr w1 : World} {b : Nat} {xs : List α} {k : Nat} (hlt : k < xs.length) {B : Nat} (hB : B ≤ b) (hbl : Below B w wr)
    (hrow : RowAt wr b (xs.length * sz)) (hfil : Filled sz R (b + 1) wr b xs k) (hb1 : Below wr.heap.size wr w1) {cs : List Value} (hcs : cs.length = sz) (hR : R wr.heap.size w1 cs xs[k]) :
    Below B w (putUp w1 b (k * sz) cs) ∧ RowAt (putUp w1 b (k * sz) cs) b (xs.length * sz) ∧ Filled sz R (b + 1) (putUp w1 b (k * sz) cs) b xs (k + 1) := by
  have hrow1 := hrow.below hb1
  have hblt := hrow.lt
  have hB' : B ≤ wr.heap.size := by omega
  refine ⟨putUp_below (hbl.trans (hb1.mono hB')) hB _ _, putUp_row hrow1 _ _, fun i hi hik => ?_⟩
  by_cases e : i = k
  · subst e
    have hfit : i * sz + cs.length ≤ xs.length * sz := by
      rw [hcs]
      have : (i + 1) * sz ≤ xs.length * sz := Nat.mul_le_mul_right _ hlt
      rw [Nat.add_mul] at this
      omega
    exact ⟨cs, hcs, fun j hj => putUp_in hrow1 _ _ hfit j hj, hK _ _ _ _ _ (putUp_kept (Kept.refl _ _ _) (Nat.lt_succ_self _) _ _) (hL _ _ _ _ _ (by omega) hR)⟩
  · obtain ⟨cs', hcs', hc', hR'⟩ := hfil i hi (by omega)
    refine ⟨cs', hcs', fun j hj => ?_, hK _ _ _ _ _ (putUp_kept (Kept.of_below hb1) (Nat.lt_succ_self _) _ _) hR'⟩
    have hlo : i * sz + j < k * sz := by
      have : (i + 1) * sz ≤ k * sz := Nat.mul_le_mul_right _ (by omega)
      rw [Nat.add_mul] at this
      omega
    rw [putUp_out _ _ _ _ _ (Or.inr (Or.inl hlo)), hb1.cell (p := ⟨b, _, none⟩) hblt]
    exact hc' j hj

/-- Below B nothing has turned, and no block made since is frozen. -/
structure BelF (B : Nat) (w w' : World) : Prop where
  below : Below B w w'
  free : ∀ k, B ≤ k → k < w'.heap.size → ∃ c t, w'.heap[k]? = some (.cells c t (0, 0))

theorem BelF.refl (w : World) : BelF w.heap.size w w := ⟨Below.refl _ _, fun k h1 h2 => absurd h2 (by omega)⟩
theorem BelF.alloc {B : Nat} {a w : World} (h : BelF B a w) (hB : B ≤ w.heap.size) (c : Array Value) {t : TypeId} : BelF B a (w.alloc (.cells c t)) := by
  refine ⟨h.below.alloc hB _, fun k h1 h2 => ?_⟩
  by_cases e : k < w.heap.size
  · obtain ⟨c1, t1, h3⟩ := h.free k h1 e
    exact ⟨c1, t1, (Below.heap_alloc _ _ _ e).trans h3⟩
  · have e2 : k = w.heap.size := by simp at h2; omega
    subst e2
    exact ⟨c, t, by show (w.heap.push _)[w.heap.size]? = _; rw [Array.getElem?_push_size]⟩
theorem BelF.setCell {B : Nat} {a w : World} (h : BelF B a w) {p : Addr} (hp : B ≤ p.block) (u : Value) : BelF B a (w.setCell p u) := by
  refine ⟨h.below.setCell hp _, fun k h1 h2 => ?_⟩
  have h2' : k < w.heap.size := by simpa [World.setCell] using h2
  obtain ⟨c1, t1, h3⟩ := h.free k h1 h2'
  by_cases e : k = p.block
  · subst e
    refine ⟨if p.spot.isSome then c1 else c1.setIfInBounds p.off u, t1, ?_⟩
    simp only [World.setCell, Array.getElem?_modify, if_true, h3, Option.map_some]
  · exact ⟨c1, t1, (Below.heap_setCell _ _ _ _ e).trans h3⟩
theorem BelF.and {B : Nat} {a b c : World} (h : BelF B a b) (k : BelF b.heap.size b c) (hB : B ≤ b.heap.size) : BelF B a c := by
  refine ⟨h.below.trans (k.below.mono hB), fun i h1 h2 => ?_⟩
  by_cases e : i < b.heap.size
  · obtain ⟨c1, t1, h3⟩ := h.free i h1 e
    exact ⟨c1, t1, (k.below.block i e).trans h3⟩
  · exact k.free i (by omega) h2
theorem putUp_belF {B : Nat} {w w' : World} (h : BelF B w w') {b : Nat} (hb : B ≤ b) (i : Nat) (cs : List Value) : BelF B w (putUp w' b i cs) := by
  induction cs generalizing w' i with
  | nil => exact h
  | cons c cs ih => exact ih (h.setCell (p := ⟨b, i, none⟩) hb c) (i + 1)
theorem fill_stepF {α : Type} {sz : Nat} {R : Nat → World → List Value → α → Prop} (hK : KeptBy R) (hL : Lowers R) {w wr w1 : World} {b : Nat} {xs : List α} {k : Nat} (hlt : k < xs.length) {B : Nat} (hB : B ≤ b) (hbl : BelF B w wr)
    (hrow : RowAt wr b (xs.length * sz)) (hfil : Filled sz R (b + 1) wr b xs k) (hb1 : BelF wr.heap.size wr w1) {cs : List Value} (hcs : cs.length = sz) (hR : R wr.heap.size w1 cs xs[k]) :
    BelF B w (putUp w1 b (k * sz) cs) ∧ RowAt (putUp w1 b (k * sz) cs) b (xs.length * sz) ∧ Filled sz R (b + 1) (putUp w1 b (k * sz) cs) b xs (k + 1) := by
  have hblt := hrow.lt
  have h := fill_step hK hL hlt hB hbl.below hrow hfil hb1.below hcs hR
  exact ⟨putUp_belF (hbl.and hb1 (by omega)) hB _ _, h.2⟩

theorem fill_none {α : Type} (sz : Nat) (R : Nat → World → List Value → α → Prop) (lo : Nat) (w : World) (b : Nat) (xs : List α) : Filled sz R lo w b xs 0 := fun _ _ h => absurd h (Nat.not_lt_zero _)

theorem fill_done {α : Type} {sz byt : Nat} {R : Nat → World → List Value → α → Prop} (hL : Lowers R) {wr : World} {b : Nat} {xs : List α} (hb : b < wr.heap.size) (h1 : Len (xs.length * byt)) (h2 : Len xs.length) (hfil : Filled sz R (b + 1) wr b xs xs.length) :
    SlAt sz byt R b wr (.slice (some ⟨b, 0, none⟩) xs.length xs.length) xs := by
  refine ⟨_, _, rfl, ⟨h1, Nat.le_refl _⟩, h2, fun i hi => ?_⟩
  obtain ⟨cs, hcs, hc, hR⟩ := hfil i hi hi
  exact ⟨b, 0, cs, rfl, Nat.le_refl _, hb, hcs, fun j hj => by rw [Nat.zero_add]; exact hc j hj, hL _ _ _ _ _ (Nat.le_succ _) hR⟩

end Go.Proofs.YtlgeioedgaajoaaGreatDoor
