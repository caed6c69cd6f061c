import Derived.Test.YtnfgcklppaknbaaWgtB
import Derived.Test.YtnfgcklppaknbaaSpecShape
namespace Go.Proofs.Ytnfgcklppaknbaa
open Go.RowKit
set_option linter.unusedSimpArgs false
set_option linter.unusedVariables false

def wEqLen (w : Nat) (e : DEq) : Nat := w + (1 + 2 * innerN e) + lensTo (codesOf e) (codesOf e).length
def wCall (ns : List DNode) (i : Nat) (ws : List Int) (w : Nat) (e : DEq) : Nat :=
  if e.call.size = 0 then w else if findI ns i e.call < 0 then w else w + (ws.getD (findI ns i e.call).toNat 0).toNat
def wCap (w : Nat) : Nat := if 20000 < w then 20001 else w
def wEqS (ns : List DNode) (i : Nat) (ws : List Int) (w : Nat) (e : DEq) : Nat := wCap (wCall ns i ws (wEqLen w e) e)
def wNodeTo (ns : List DNode) (i : Nat) (ws : List Int) (eqs : List DEq) : Nat → Nat
  | 0 => 1
  | k + 1 => match eqs[k]? with
    | some e => wEqS ns i ws (wNodeTo ns i ws eqs k) e
    | none => wNodeTo ns i ws eqs k
def wsTo (ns : List DNode) : Nat → List Int
  | 0 => []
  | k + 1 => wsTo ns k ++ [match ns[k]? with | some n => ((wNodeTo ns k (wsTo ns k) n.eqs n.eqs.length : Nat) : Int) | none => 0]

theorem wCap_le (w : Nat) : wCap w ≤ 20001 := by unfold wCap; split <;> omega
theorem wNodeTo_le (ns : List DNode) (i : Nat) (ws : List Int) (eqs : List DEq) (k : Nat) : wNodeTo ns i ws eqs k ≤ 20001 := by
  induction k with
  | zero => simp [wNodeTo]
  | succ k ih =>
    unfold wNodeTo
    cases eqs[k]? with
    | none => exact ih
    | some e => exact wCap_le _
theorem wsTo_length (ns : List DNode) (k : Nat) : (wsTo ns k).length = k := by
  induction k with
  | zero => rfl
  | succ k ih => unfold wsTo; rw [List.length_append, ih]; rfl
theorem wsTo_bd (ns : List DNode) (k : Nat) : ∀ x, x ∈ wsTo ns k → 0 ≤ x ∧ x ≤ 20001 := by
  induction k with
  | zero => intro x hx; cases hx
  | succ k ih =>
    intro x hx
    unfold wsTo at hx
    rcases List.mem_append.1 hx with hx | hx
    · exact ih x hx
    · simp only [List.mem_singleton] at hx
      subst hx
      cases ns[k]? with
      | none => simp only; omega
      | some n => have := wNodeTo_le ns k (wsTo ns k) n.eqs n.eqs.length; simp only; omega

/-- The bounds that a right shape gives to its equations. -/
def EqSmall (ns : List DNode) : Prop := ∀ n, n ∈ ns → ∀ e, e ∈ n.eqs → (codesOf e).length ≤ 500 ∧ ∀ c, c ∈ codesOf e → c.length ≤ 3000

theorem cd_len (c : List DItem) (h : cdB c = true) : c.length ≤ 3000 := by
  unfold cdB at h
  simp only [Bool.and_eq_true, decide_eq_true_iff] at h
  exact h.1.1
theorem eq_small (e : DEq) (h : eqB e = true) : (codesOf e).length ≤ 500 ∧ ∀ c, c ∈ codesOf e → c.length ≤ 3000 := by
  unfold eqB at h
  simp only [Bool.and_eq_true, decide_eq_true_iff] at h
  obtain ⟨⟨⟨h1, h2, h3⟩, h4⟩, h5⟩ := h
  unfold codesOf
  by_cases g : e.call.size = 0
  · rw [if_pos g] at h5 ⊢
    simp only [Bool.and_eq_true] at h5
    refine ⟨by simp, fun c hc => ?_⟩
    simp only [List.mem_singleton] at hc
    subst hc
    exact cd_len _ h5.2
  · rw [if_neg g] at h5 ⊢
    simp only [Bool.and_eq_true] at h5
    exact ⟨h3, fun c hc => cd_len c (List.all_eq_true.1 h5.2 c hc)⟩
theorem shape_small (ns : List DNode) (h : shapeB ns = true) : EqSmall ns := by
  unfold shapeB at h
  simp only [Bool.and_eq_true] at h
  intro n hn e he
  have := (node_iff n).1 (List.all_eq_true.1 h.2 n hn)
  exact eq_small e (List.all_eq_true.1 this.2.2.2.2.2 e he)

end Go.Proofs.Ytnfgcklppaknbaa
