import Derived.Test.YtlgeioedgaajoaaGreatDoorPure
namespace Go.Proofs.YtlgeioedgaajoaaGreatDoor
open Go.RowKit
set_option linter.unusedSimpArgs false
set_option linter.unusedVariables false

def vbB (m i : Nat) (v : DVar) : Bool := if i < m then portB v else varB v

theorem node_iff (n : DNode) : nodeB n = true ↔ (1 ≤ n.outs.length ∧ n.ins.length + n.outs.length + n.vars.length ≤ 500 ∧ 1 ≤ n.eqs.length ∧ n.eqs.length ≤ 500) ∧ nameB n.name = true ∧ n.ins.all portB = true ∧ n.outs.all portB = true ∧ n.vars.all varB = true ∧ n.eqs.all eqB = true := by
  unfold nodeB
  simp only [Bool.and_eq_true, decide_eq_true_iff, and_assoc]

theorem of_not_true {b : Bool} (h : ¬ b = true) : b = false := by cases b; rfl; exact absurd rfl h

theorem node_no_name (n : DNode) (h : nameB n.name = false) : nodeB n = false := of_not_true fun hh => by
  have := ((node_iff n).1 hh).2.1
  rw [h] at this
  cases this
theorem node_no_len (n : DNode) (h : ¬ (1 ≤ n.outs.length ∧ n.ins.length + n.outs.length + n.vars.length ≤ 500 ∧ 1 ≤ n.eqs.length ∧ n.eqs.length ≤ 500)) : nodeB n = false := of_not_true fun hh => h ((node_iff n).1 hh).1
theorem node_no_eq (n : DNode) (h : n.eqs.all eqB = false) : nodeB n = false := of_not_true fun hh => by
  have := ((node_iff n).1 hh).2.2.2.2.2
  rw [h] at this
  cases this

theorem vs_all (ins outs vars : List DVar) : (∀ i (h : i < (ins ++ outs ++ vars).length), vbB (ins.length + outs.length) i (ins ++ outs ++ vars)[i] = true) ↔ ins.all portB = true ∧ outs.all portB = true ∧ vars.all varB = true := by
  simp only [List.all_eq_true]
  constructor
  · intro h
    refine ⟨fun x hx => ?_, fun x hx => ?_, fun x hx => ?_⟩
    · obtain ⟨j, hj, rfl⟩ := List.getElem_of_mem hx
      have := h j (by simp only [List.length_append]; omega)
      rw [List.getElem_append_left (by simp only [List.length_append]; omega), List.getElem_append_left hj] at this
      unfold vbB at this
      rw [if_pos (by omega)] at this
      exact this
    · obtain ⟨j, hj, rfl⟩ := List.getElem_of_mem hx
      have := h (ins.length + j) (by simp only [List.length_append]; omega)
      rw [List.getElem_append_left (by simp only [List.length_append]; omega), List.getElem_append_right (by omega)] at this
      unfold vbB at this
      rw [if_pos (by omega)] at this
      simpa using this
    · obtain ⟨j, hj, rfl⟩ := List.getElem_of_mem hx
      have := h (ins.length + outs.length + j) (by simp only [List.length_append]; omega)
      rw [List.getElem_append_right (by simp only [List.length_append]; omega)] at this
      unfold vbB at this
      rw [if_neg (by omega)] at this
      simpa using this
  · rintro ⟨h1, h2, h3⟩ i hi
    simp only [List.length_append] at hi
    unfold vbB
    by_cases c1 : i < ins.length
    · rw [if_pos (by omega), List.getElem_append_left (by simp only [List.length_append]; omega), List.getElem_append_left c1]
      exact h1 _ (List.getElem_mem c1)
    · by_cases c2 : i < ins.length + outs.length
      · rw [if_pos c2, List.getElem_append_left (by simp only [List.length_append]; omega), List.getElem_append_right (by omega)]
        exact h2 _ (List.getElem_mem (by omega))
      · rw [if_neg c2, List.getElem_append_right (by simp only [List.length_append]; omega)]
        exact h3 _ (List.getElem_mem (by simp only [List.length_append]; omega))

theorem node_no_var (n : DNode) (vs : List DVar) (e : n.ins ++ n.outs ++ n.vars = vs) (i : Nat) (hi : i < vs.length) (h : vbB (n.ins.length + n.outs.length) i vs[i] = false) : nodeB n = false := of_not_true fun hh => by
  have hn := (node_iff n).1 hh
  subst e
  have := (vs_all n.ins n.outs n.vars).2 ⟨hn.2.2.1, hn.2.2.2.1, hn.2.2.2.2.1⟩ i hi
  rw [h] at this
  cases this

theorem node_yes (n : DNode) (vs : List DVar) (e : n.ins ++ n.outs ++ n.vars = vs) (h0 : 1 ≤ n.outs.length ∧ n.ins.length + n.outs.length + n.vars.length ≤ 500 ∧ 1 ≤ n.eqs.length ∧ n.eqs.length ≤ 500) (h1 : nameB n.name = true)
    (h2 : ∀ i (h : i < vs.length), vbB (n.ins.length + n.outs.length) i vs[i] = true) (h3 : n.eqs.all eqB = true) : nodeB n = true := by
  subst e
  have := (vs_all n.ins n.outs n.vars).1 h2
  exact (node_iff n).2 ⟨h0, h1, this.1, this.2.1, this.2.2, h3⟩

theorem var_iff (v : DVar) : varB v = true ↔ nameB v.name = true ∧ (v.type = 1 ∨ v.type = 2) ∧ v.clock.length ≤ 8 ∧ v.clock.all condB = true := by
  unfold varB
  simp only [Bool.and_eq_true, decide_eq_true_iff, and_assoc]
theorem port_iff (v : DVar) : portB v = true ↔ v.clock.length = 0 ∧ varB v = true := by
  unfold portB
  simp only [Bool.and_eq_true, decide_eq_true_iff]
theorem vb_iff (m i : Nat) (v : DVar) : vbB m i v = true ↔ nameB v.name = true ∧ (v.type = 1 ∨ v.type = 2) ∧ v.clock.length ≤ 8 ∧ v.clock.all condB = true ∧ (i < m → v.clock.length = 0) := by
  unfold vbB
  by_cases h : i < m
  · rw [if_pos h, port_iff, var_iff]
    constructor
    · rintro ⟨a, b, c, d, e⟩; exact ⟨b, c, d, e, fun _ => a⟩
    · rintro ⟨b, c, d, e, a⟩; exact ⟨a h, b, c, d, e⟩
  · rw [if_neg h, var_iff]
    constructor
    · rintro ⟨b, c, d, e⟩; exact ⟨b, c, d, e, fun h' => absurd h' h⟩
    · rintro ⟨b, c, d, e, _⟩; exact ⟨b, c, d, e⟩
theorem vb_no (m i : Nat) (v : DVar) (h : ¬ (nameB v.name = true ∧ (v.type = 1 ∨ v.type = 2) ∧ v.clock.length ≤ 8 ∧ v.clock.all condB = true ∧ (i < m → v.clock.length = 0))) : vbB m i v = false := of_not_true fun hh => h ((vb_iff m i v).1 hh)

end Go.Proofs.YtlgeioedgaajoaaGreatDoor
