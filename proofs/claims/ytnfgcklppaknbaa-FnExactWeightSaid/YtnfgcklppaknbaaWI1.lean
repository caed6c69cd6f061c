import Derived.Test.YtnfgcklppaknbaaWgt
import Derived.Test.YtnfgcklppaknbaaBlk
import Derived.Deep.RegionHeld3
import Derived.Deep.QuietTactic
import Derived.BigQuiet
namespace Go.Proofs.Ytnfgcklppaknbaa
open Go.RowKit
set_option linter.unusedSimpArgs false
set_option linter.unusedVariables false

/-- The sz cells from ⟨b, o⟩ on are told by R as x. -/
def At {α : Type} (sz : Nat) (R : Nat → World → List Value → α → Prop) (w : World) (b o : Nat) (x : α) : Prop :=
  b < w.heap.size ∧ ∃ cs, cs.length = sz ∧ (∀ j (hj : j < cs.length), w.cell? ⟨b, o + j, none⟩ = some cs[j]) ∧ R 0 w cs x
theorem At.stays {α : Type} {sz : Nat} {R : Nat → World → List Value → α → Prop} (hR : KeptBy R) {w w' : World} {b o : Nat} {x : α} (hb : Below w.heap.size w w') (h : At sz R w b o x) : At sz R w' b o x := by
  obtain ⟨h1, cs, h2, h3, h4⟩ := h
  exact ⟨Nat.lt_of_lt_of_le h1 hb.size, cs, h2, fun j hj => by rw [hb.cell (p := ⟨b, _, none⟩) h1]; exact h3 j hj, hR.stays _ _ _ _ _ hb h4⟩
theorem SlAt.at' {α : Type} {sz byt : Nat} {R : Nat → World → List Value → α → Prop} {w : World} {v : Value} {xs : List α} (h : SlAt sz byt R 0 w v xs) (i : Nat) (hi : i < xs.length) :
    ∃ b o cap, v = .slice (some ⟨b, o, none⟩) xs.length cap ∧ At sz R w b (o + i * sz) xs[i] := by
  obtain ⟨a, cap, rfl, _, _, hx⟩ := h
  obtain ⟨b, o, cs, rfl, _, hb, hl, hc, hr⟩ := hx i hi
  exact ⟨b, o, cap, rfl, hb, cs, hl, hc, hr⟩

def lastFby (code : List DItem) : Bool := match code[code.length - 1]? with | some t => fbyB t.op | none => false
theorem innTo_tf (code : List DItem) (k : Nat) (hk : k < code.length) : innTo true code k = innTo false code k := by
  induction k with
  | zero => rfl
  | succ k ih =>
    unfold innTo
    rw [ih (by omega)]
    have e : innB true code k = innB false code k := by
      unfold innB
      have : (k + 1 == code.length) = false := by rw [beq_eq_false_iff_ne]; omega
      rw [this]
      simp
    rw [e]
theorem innTo_last (code : List DItem) (hn : 0 < code.length) : innTo false code code.length = innTo true code code.length + (if lastFby code then 1 else 0) := by
  obtain ⟨n, hl⟩ : ∃ n, code.length = n + 1 := ⟨code.length - 1, by omega⟩
  have e2 := innTo_tf code n (by omega)
  unfold lastFby
  rw [hl]
  unfold innTo
  rw [e2]
  unfold innB
  rw [hl]
  have e3 : code[n]? = some code[n] := List.getElem?_eq_getElem (by omega)
  simp [e3]
theorem innerN_full (x : DEq) (h : x.call.size ≠ 0) : innerN x = innerTo false (codesOf x) (codesOf x).length := by
  unfold innerN
  rw [decide_eq_false h]
theorem innerN_code (x : DEq) (h : x.call.size = 0) (hn : 0 < x.code.length) : innerTo false (codesOf x) (codesOf x).length = innerN x + (if lastFby x.code then 1 else 0) := by
  unfold innerN codesOf
  rw [decide_eq_true h, if_pos h]
  show 0 + innTo false x.code x.code.length = 0 + innTo true x.code x.code.length + _
  rw [innTo_last x.code hn]
  omega

theorem isFby_ok (op val : Int) (nm : ByteArray) (w : World) :
    Calls Try.prog 62 #[.agg #[.int .i64 op, .int .i64 val, .string nm]] w (Ans (.bool (fbyB op)) w) := by
  have B0 := hide ((Below.refl w.heap.size w).alloc (Nat.le_refl _) (.cells #[.int .i64 op, .int .i64 val, .string nm] 71))
  cases h1 : (op == 21) <;> cases h2 : (op == 22)
  all_goals
    have e : fbyB op = (op == 21 || op == 22) := rfl
    rw [h1, h2] at e
    rw [e]
    clear e
    go_enter Try.func62, Try.ntmps62
    go_wp2
    go_ret
    exact ⟨rfl, unhide B0⟩

set_option maxHeartbeats 400000 in
theorem expressions_ok (x : DEq) (b o : Nat) (w : World) (h : At 4 REq w b o x) :
    Calls Try.prog 40 #[.pointer (some ⟨b, o, none⟩)] w fun e w' => ∃ v, e = .returned v ∧ SlAt 1 24 RItems 0 w' v (codesOf x) ∧ Below w.heap.size w w' := by
  obtain ⟨lhs, code, s, args⟩ := x
  obtain ⟨hbl, cs, hl, hc, a1, a2, a3, rfl, hs, h1, h2, h3⟩ := h
  simp only [codesOf] at *
  obtain ⟨b2, c2, rfl⟩ := h2.shape
  obtain ⟨b3, c3, rfl⟩ := h3.shape
  have k1 := hc 1 (by simp)
  have k2 := hc 2 (by simp)
  have k3 := hc 3 (by simp)
  simp only [List.getElem_cons_zero, List.getElem_cons_succ] at k1 k2 k3
  have H2 := hide h2
  have H3 := hide h3
  clear h1 h2 h3 hc hs hl
  by_cases g : s.size = 0
  · rw [if_pos g]
    have d4 := empty_yes s g
    have d4' := isEmpty_yes s g
    have HO := hide (one_at 48 (unhide H2))
    clear g
    go_enter Try.func40, Try.ntmps40
    go_wp2
    go_ret
    exact ⟨_, rfl, by simpa using unhide HO, (Below.refl _ _).alloc (Nat.le_refl _) _⟩
  · rw [if_neg g]
    have d4 := empty_no s g
    have d4' := isEmpty_no s g
    clear g
    go_enter Try.func40, Try.ntmps40
    go_wp2
    go_ret
    exact ⟨_, rfl, unhide H3, Below.refl _ _⟩

end Go.Proofs.Ytnfgcklppaknbaa
