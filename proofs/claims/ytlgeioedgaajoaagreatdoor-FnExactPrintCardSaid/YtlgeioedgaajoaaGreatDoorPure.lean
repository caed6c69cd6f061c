import Derived.Test.YtlgeioedgaajoaaGreatDoorCodeB
namespace Go.Proofs.YtlgeioedgaajoaaGreatDoor
open Go.RowKit
set_option linter.unusedSimpArgs false
set_option linter.unusedVariables false

def fw : List DItem → Int → Option Int
  | [], r => some r
  | t :: ts, r => if r < arI t.op then none else fw ts (r + (1 - arI t.op))

theorem fw_append (xs : List DItem) (t : DItem) (r : Int) : fw (xs ++ [t]) r = (fw xs r).bind (fun q => if q < arI t.op then none else some (q + (1 - arI t.op))) := by
  induction xs generalizing r with
  | nil => simp [fw]
  | cons x xs ih =>
    simp only [List.cons_append, fw]
    split
    · rfl
    · exact ih _

theorem bk_fw (rev : List DItem) (n : Nat) : bk rev n = some 0 ↔ (∀ t, t ∈ rev → 0 ≤ arI t.op) ∧ fw rev.reverse 0 = some (n : Int) := by
  induction rev generalizing n with
  | nil =>
    cases n with
    | zero => simp [bk, fw]
    | succ n =>
      simp [bk, fw]
      omega
  | cons t ts ih =>
    rw [List.reverse_cons, fw_append]
    cases n with
    | zero =>
      rw [bk_zero]
      constructor
      · intro h; simp at h
      · rintro ⟨h1, h2⟩
        cases hq : fw ts.reverse 0 with
        | none => rw [hq] at h2; simp at h2
        | some q =>
          rw [hq] at h2
          simp at h2
          omega
    | succ n =>
      simp only [bk]
      by_cases hneg : arI t.op < 0
      · rw [if_pos hneg]
        constructor
        · intro h; cases h
        · rintro ⟨h1, _⟩
          have := h1 t (List.mem_cons_self ..)
          omega
      · rw [if_neg hneg, ih]
        constructor
        · rintro ⟨h1, h2⟩
          refine ⟨fun x hx => ?_, ?_⟩
          · rcases List.mem_cons.1 hx with rfl | hx
            · omega
            · exact h1 x hx
          · rw [h2]
            simp
            omega
        · rintro ⟨h1, h2⟩
          refine ⟨fun x hx => h1 x (List.mem_cons_of_mem _ hx), ?_⟩
          cases hq : fw ts.reverse 0 with
          | none => rw [hq] at h2; simp at h2
          | some q =>
            rw [hq] at h2
            simp at h2
            rw [Option.some.injEq]
            omega

theorem wk_fw (xs : List DItem) (r : Int) (h : ∀ t, t ∈ xs → ocI t.op = arI t.op) : wk xs r = true ↔ fw xs r = some 1 := by
  induction xs generalizing r with
  | nil =>
    simp only [wk, fw]
    simp
  | cons t ts ih =>
    simp only [wk, fw]
    rw [h t (List.mem_cons_self ..)]
    by_cases hneg : r < arI t.op
    · rw [if_pos hneg, if_pos hneg]; simp
    · rw [if_neg hneg, if_neg hneg]
      exact ih _ (fun x hx => h x (List.mem_cons_of_mem _ hx))

theorem oc_ar (op : Int) (h : 0 ≤ arI op) : ocI op = arI op := by
  unfold arI at *
  unfold ocI
  by_cases h1 : (1 ≤ op ∧ op ≤ 3) ∨ op = 25
  · rw [if_pos h1, if_pos (by omega)]
  · rw [if_neg h1] at h
    rw [if_neg h1, if_neg (by omega)]
    by_cases h2 : op = 4 ∨ op = 5 ∨ op = 21 ∨ op = 22 ∨ op = 23
    · rw [if_pos h2, if_pos h2]
    · rw [if_neg h2] at h
      rw [if_neg h2, if_neg h2]
      by_cases h3 : (6 ≤ op ∧ op ≤ 19) ∨ op = 24
      · rw [if_pos h3, if_neg (by omega)]
      · rw [if_neg h3] at h
        rw [if_neg h3]
        by_cases h4 : op = 20
        · rw [if_pos h4, if_pos h4]
        · rw [if_neg h4] at h
          omega

theorem ar_iff (op : Int) : 0 ≤ arI op ↔ 1 ≤ op ∧ op ≤ 25 := by
  unfold arI
  by_cases h1 : (1 ≤ op ∧ op ≤ 3) ∨ op = 25
  · rw [if_pos h1]; omega
  · rw [if_neg h1]
    by_cases h2 : op = 4 ∨ op = 5 ∨ op = 21 ∨ op = 22 ∨ op = 23
    · rw [if_pos h2]; omega
    · rw [if_neg h2]
      by_cases h3 : (6 ≤ op ∧ op ≤ 19) ∨ op = 24
      · rw [if_pos h3]; omega
      · rw [if_neg h3]
        by_cases h4 : op = 20
        · rw [if_pos h4]; omega
        · rw [if_neg h4]; omega

theorem bg_zero (xs : List DItem) : (bgI xs == 0) = true ↔ bk xs.reverse 1 = some 0 := by
  unfold bgI
  rw [beq_iff_eq]
  cases h : bk xs.reverse 1 with
  | none => simp
  | some m => simp

theorem it_iff (t : DItem) : itB t = true ↔ (1 ≤ t.op ∧ t.op ≤ 24) ∧ rgB t = true ∧ nmB t = true := by
  simp [itB, and_assoc]
theorem sit_iff (t : DItem) : sItB t = true ↔ nmB t = true ∧ (t.op = 25 ∨ rgB t = true) := by
  simp [sItB]

theorem code_same (xs : List DItem) : (scB xs && xs.all (fun t => !(t.op == 25))) = cdB xs := by
  rw [Bool.eq_iff_iff]
  simp only [scB, cdB, Bool.and_eq_true, decide_eq_true_iff, List.all_eq_true, bg_zero, bk_fw, List.reverse_reverse, List.mem_reverse]
  constructor
  · rintro ⟨⟨⟨⟨h1, h2⟩, h3, h4⟩, h5⟩, h6⟩
    refine ⟨⟨h2, fun t ht => ?_⟩, ?_⟩
    · rw [it_iff]
      have a := (ar_iff t.op).1 (h3 t ht)
      have b := (sit_iff t).1 (h5 t ht)
      have c : ¬ t.op = 25 := by have := h6 t ht; simpa using this
      exact ⟨by omega, b.2.resolve_left c, b.1⟩
    · exact (wk_fw xs 0 (fun t ht => oc_ar _ (h3 t ht))).2 (by simpa using h4)
  · rintro ⟨⟨h2, h3⟩, h4⟩
    have har : ∀ t, t ∈ xs → 0 ≤ arI t.op := fun t ht => (ar_iff t.op).2 (by have := ((it_iff t).1 (h3 t ht)).1; omega)
    have h5 : fw xs 0 = some 1 := (wk_fw xs 0 (fun t ht => oc_ar _ (har t ht))).1 h4
    refine ⟨⟨⟨⟨?_, h2⟩, har, by simpa using h5⟩, fun t ht => ?_⟩, fun t ht => ?_⟩
    · cases xs with
      | nil => simp [fw] at h5
      | cons t ts => simp
    · have := (it_iff t).1 (h3 t ht)
      exact (sit_iff t).2 ⟨this.2.2, Or.inr this.2.1⟩
    · have := (it_iff t).1 (h3 t ht)
      have c : ¬ t.op = 25 := by omega
      simpa using c

def condB (c : DCond) : Bool := nameB c.name
def varB (v : DVar) : Bool := nameB v.name && decide (v.type = 1 ∨ v.type = 2) && decide (v.clock.length ≤ 8) && v.clock.all condB
def portB (v : DVar) : Bool := decide (v.clock.length = 0) && varB v
def eqB (e : DEq) : Bool := decide (1 ≤ e.lhs.length ∧ e.lhs.length ≤ 500 ∧ e.args.length ≤ 500) && e.lhs.all nameB && (if e.call.size = 0 then decide (e.lhs.length = 1 ∧ e.args.length = 0) && cdB e.code else nameB e.call && decide (e.code.length = 0) && e.args.all cdB)
def nodeB (n : DNode) : Bool := decide (1 ≤ n.outs.length ∧ n.ins.length + n.outs.length + n.vars.length ≤ 500 ∧ 1 ≤ n.eqs.length ∧ n.eqs.length ≤ 500) && nameB n.name && n.ins.all portB && n.outs.all portB && n.vars.all varB && n.eqs.all eqB
def shapeB (ns : List DNode) : Bool := decide (1 ≤ ns.length ∧ ns.length ≤ 200) && ns.all nodeB

end Go.Proofs.YtlgeioedgaajoaaGreatDoor
