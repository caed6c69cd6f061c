import Derived.Test.YtmglbkndjnflkaaGreatDoorMData
import Derived.Test.YtmglbkndjnflkaaGreatDoorCode
import Derived.Test.YtmglbkndjnflkaaGreatDoorFill
namespace Go.Proofs.YtmglbkndjnflkaaGreatDoor
open Go.RowKit
set_option linter.unusedSimpArgs false
set_option linter.unusedVariables false

theorem SlAt.lenM {α : Type} {sz byt lo : Nat} {R : Nat → World → List Value → α → Prop} {w : World} {v : Value} {xs : List α} (h : SlAt sz byt R lo w v xs) : xs.length ≤ 140737488355328 := by
  obtain ⟨_, _, _, _, h, _⟩ := h
  exact h
/-- An item of a machine's expression, apart from 1.5. -/
def mItB (k : DClass) (t : DItem) : Bool := !(decide (20 < t.op) && t.op != 25) && (t.op != 3 || inB (varsOf k) t.name) && (t.op != 25 || decide (0 ≤ t.val ∧ t.val < (k.mems.length : Int)))
def mcB (k : DClass) (code : List DItem) : Bool := scM 6000 code && code.all (mItB k)

/-- The Else and the End of the If at the head, from place j on; the kinds alone. -/
def pGo : List Int → Nat → Int → Int → Int × Int
  | [], _, _, _ => (-1, -1)
  | kd :: r, j, d, o =>
    if kd = 4 then pGo r (j + 1) (d + 1) o
    else if kd = 5 then (if d = 1 then (if 0 ≤ o then (-1, -1) else pGo r (j + 1) d (j : Int)) else pGo r (j + 1) d o)
    else if kd = 6 then (if d - 1 = 0 then (o, (j : Int)) else pGo r (j + 1) (d - 1) o)
    else pGo r (j + 1) d o
def partsI (ks : List Int) (i : Nat) : Int × Int := pGo (ks.drop i) i 0 (-1)

theorem ret_two {a b : Int} {p : Int × Int} (h : p = (a, b)) : Ending.returned (.tuple #[.int .i64 a, .int .i64 b]) = .returned (.tuple #[.int .i64 p.1, .int .i64 p.2]) := by rw [h]
theorem pGo_bd (ks : List Int) : ∀ (j : Nat) (d o : Int), 0 ≤ (pGo ks j d o).2 → ((j : Int) ≤ (pGo ks j d o).2 ∧ (pGo ks j d o).2 < (j : Int) + ks.length) ∧ ((pGo ks j d o).1 = o ∨ ((j : Int) ≤ (pGo ks j d o).1 ∧ (pGo ks j d o).1 < (pGo ks j d o).2)) := by
  induction ks with
  | nil => intro j d o h; simp [pGo] at h
  | cons kd r ih =>
    intro j d o h
    unfold pGo at h ⊢
    simp only [List.length_cons]
    split at h <;> rename_i h4
    · rw [if_pos h4]
      have := ih (j + 1) (d + 1) o h
      omega
    · rw [if_neg h4]
      split at h <;> rename_i h5
      · rw [if_pos h5]
        split at h <;> rename_i hd
        · rw [if_pos hd]
          split at h <;> rename_i ho
          · simp at h
          · rw [if_neg ho]
            have := ih (j + 1) d (j : Int) h
            omega
        · rw [if_neg hd]
          have := ih (j + 1) d o h
          omega
      · rw [if_neg h5]
        split at h <;> rename_i h6
        · rw [if_pos h6]
          split at h <;> rename_i hd
          · rw [if_pos hd]
            exact ⟨⟨Int.le_refl _, by omega⟩, Or.inl rfl⟩
          · rw [if_neg hd]
            have := ih (j + 1) (d - 1) o h
            omega
        · rw [if_neg h6]
          have := ih (j + 1) d o h
          omega
theorem parts_bd (ks : List Int) (i : Nat) (hi : i < ks.length) (h4 : ks[i] = 4) (h1 : 0 ≤ (partsI ks i).1) (h2 : 0 ≤ (partsI ks i).2) : (i : Int) + 1 ≤ (partsI ks i).1 ∧ (partsI ks i).1 < (partsI ks i).2 ∧ (partsI ks i).2 < ks.length := by
  unfold partsI at *
  rw [List.drop_eq_getElem_cons hi, h4] at h1 h2 ⊢
  unfold pGo at h1 h2 ⊢
  rw [if_pos rfl] at h1 h2 ⊢
  have := pGo_bd (ks.drop (i + 1)) (i + 1) (0 + 1) (-1) h2
  rw [List.length_drop] at this
  omega

end Go.Proofs.YtmglbkndjnflkaaGreatDoor
