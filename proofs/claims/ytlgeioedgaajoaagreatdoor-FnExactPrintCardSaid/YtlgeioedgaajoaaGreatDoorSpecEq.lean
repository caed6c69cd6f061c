import Derived.Test.YtlgeioedgaajoaaGreatDoorPure
namespace Go.Proofs.YtlgeioedgaajoaaGreatDoor
open Go.RowKit
set_option linter.unusedSimpArgs false
set_option linter.unusedVariables false

theorem SlAt.len' {α : Type} {sz byt lo : Nat} {R : Nat → World → List Value → α → Prop} {w : World} {v : Value} {xs : List α} (h : SlAt sz byt R lo w v xs) : xs.length ≤ 140737488355328 := by
  obtain ⟨_, _, _, _, hn, _⟩ := h
  exact hn

/-- A slice of one that has just been built. -/
theorem one_at {w : World} {v : Value} {l : List DItem} (t : TypeId) (h : SlAt 3 32 RItem 0 w v l) : SlAt 1 24 RItems 0 (w.alloc (.cells #[v] t)) (.slice (some ⟨w.heap.size, 0, none⟩) 1 1) [l] := by
  refine ⟨_, _, rfl, ⟨by simp [Len], by simp⟩, by simp [Len], fun i hi => ?_⟩
  have hi0 : i = 0 := by simpa using hi
  subst hi0
  refine ⟨_, _, [v], rfl, Nat.zero_le _, by simp, rfl, fun j hj => ?_, ⟨v, rfl, h.stays RItem_kept ((Below.refl _ _).alloc (Nat.le_refl _) _)⟩⟩
  have hj0 : j = 0 := by simpa using hj
  subst hj0
  simp only [Nat.zero_mul, Nat.add_zero]
  rw [World.cell?_alloc_at _ _ _ _ rfl]
  rfl

set_option maxHeartbeats 4000000 in
theorem l1EqOK_ok (x : DEq) (a1 a2 a3 : Value) (w : World) (hs : Len x.call.size) (h1 : SlAt 1 16 RStr 0 w a1 x.lhs) (h2 : SlAt 3 32 RItem 0 w a2 x.code) (h3 : SlAt 1 24 RItems 0 w a3 x.args) :
    Calls Tryz.prog 22 #[.agg #[a1, a2, .string x.call, a3]] w (Ans (.bool (eqB x)) w) := by
  obtain ⟨lhs, code, s, args⟩ := x
  simp only [eqB] at *
  have n1 := h1.len'
  have n2 := h2.len'
  have n3 := h3.len'
  obtain ⟨b1, c1, rfl⟩ := h1.shape
  obtain ⟨b2, c2, rfl⟩ := h2.shape
  obtain ⟨b3, c3, rfl⟩ := h3.shape
  have H2 := hide h2
  have H3 := hide h3
  obtain ⟨_, _, hv1, _, _, hx1⟩ := h1
  simp only [Value.slice.injEq] at hv1
  obtain ⟨rfl, _, rfl⟩ := hv1
  have HX1 := hide hx1
  clear h2 h3 hx1
  cases hl : lhs.all nameB
  · rw [Bool.and_false, Bool.false_and]
    have HL := hide hl
    clear hl
    go_enter Tryz.func22, Tryz.ntmps22
    go_wp2
    go_loopg [13] lhs.length (fun g i wr => ∃ (k : Nat), k ≤ lhs.length ∧ g = lhs.length - k ∧ i = .int .i64 k ∧ Below (w.heap.size + 1) (w.alloc (.cells #[.slice b1 lhs.length c1, .slice b2 code.length c2, .string s, .slice b3 args.length c3] 45)) wr ∧ ∀ j (h : j < lhs.length), j < k → nameB lhs[j] = true)
    case atStart => exact ⟨0, Nat.zero_le _, by omega, rfl, Below.refl _ _, fun j _ h => absurd h (Nat.not_lt_zero _)⟩
    case round =>
      obtain ⟨k, hk, hg, rfl, hbl0, hall⟩ := hrel
      have HG := hide hg
      have HA := hide hall
      have HBL := hide hbl0
      have B1 : Hid (Below w.heap.size w wr) := ((Below.refl _ _).alloc (Nat.le_refl _) _).trans (hbl0.mono (Nat.le_succ _))
      have hz := hbl0.size
      simp only [World.size_alloc] at hz
      have hza1 : w.heap.size < wr.heap.size := by omega
      have k0 : wr.cell? ⟨w.heap.size, 0, none⟩ = some (.slice b1 lhs.length c1) := by rw [hbl0.cell (p := ⟨w.heap.size, 0, none⟩) (Nat.lt_succ_self _), World.cell?_alloc_at _ _ _ _ rfl]; rfl
      have k1 : wr.cell? ⟨w.heap.size, 1, none⟩ = some (.slice b2 code.length c2) := by rw [hbl0.cell (p := ⟨w.heap.size, 1, none⟩) (Nat.lt_succ_self _), World.cell?_alloc_at _ _ _ _ rfl]; rfl
      have k2 : wr.cell? ⟨w.heap.size, 2, none⟩ = some (.string s) := by rw [hbl0.cell (p := ⟨w.heap.size, 2, none⟩) (Nat.lt_succ_self _), World.cell?_alloc_at _ _ _ _ rfl]; rfl
      have k3 : wr.cell? ⟨w.heap.size, 3, none⟩ = some (.slice b3 args.length c3) := by rw [hbl0.cell (p := ⟨w.heap.size, 3, none⟩) (Nat.lt_succ_self _), World.cell?_alloc_at _ _ _ _ rfl]; rfl
      clear hg hall hbl0 hz
      by_cases hlt : k < lhs.length
      · obtain ⟨b, o, cs, hbo, _, hb, hcs, hc, hR⟩ := unhide HX1 k hlt
        subst hbo
        have hc : ∀ j (hj : j < cs.length), wr.cell? ⟨b, o + k * 1 + j, none⟩ = some cs[j] := fun j hj => by rw [(unhide B1).cell (p := ⟨b, _, none⟩) hb]; exact hc j hj
        obtain ⟨rfl, hsn⟩ := hR
        have c0 := hc 0 (by simp)
        simp only [Nat.mul_one, Nat.add_zero, List.getElem_cons_zero, List.getElem_cons_succ] at c0
        have HC := hide (fun w => l1Name_ok lhs[k] w hsn)
        clear hc hcs hsn
        cases hp : nameB lhs[k]
        · go_wp2_with fail
          refine (unhide HC _).mono ?_
          rintro e w2 ⟨rfl, hb2⟩
          rw [hp]
          go_wp2
          go_ret
          exact ⟨rfl, (unhide B1).trans (hb2.mono (unhide B1).size)⟩
        · have A' : ∀ j (h : j < lhs.length), j < k + 1 → nameB lhs[j] = true := by
            intro j h h1
            by_cases e : j = k
            · subst e; exact hp
            · exact unhide HA j h (by omega)
          have HA' := hide A'
          clear A'
          go_wp2_with fail
          refine (unhide HC _).mono ?_
          rintro e w2 ⟨rfl, hb2⟩
          rw [hp]
          go_wp2
          go_roundg (lhs.length - (k + 1))
          case measure => have := unhide HG; omega
          case rel => exact ⟨k + 1, by omega, rfl, by go_num, (unhide HBL).trans (hb2.mono (by have := (unhide HBL).size; simp at this; omega)), unhide HA'⟩
      · exfalso
        have : lhs.all nameB = true := by
          rw [List.all_eq_true]
          intro x hx
          obtain ⟨j, hj, rfl⟩ := List.getElem_of_mem hx
          exact unhide HA j hj (by omega)
        rw [unhide HL] at this
        cases this
  rw [Bool.and_true]
  have HL := hide hl
  clear hl
  by_cases g1 : lhs.length < 1
  · have d1 : decide ((lhs.length : Int) < 1) = true := by rw [decide_eq_true_iff]; omega
    have e : decide (1 ≤ lhs.length ∧ lhs.length ≤ 500 ∧ args.length ≤ 500) = false := by rw [decide_eq_false_iff_not]; omega
    rw [e, Bool.false_and]
    clear e
    go_enter Tryz.func22, Tryz.ntmps22
    go_wp2
    go_loopg [13] lhs.length (fun g i wr => ∃ (k : Nat), k ≤ lhs.length ∧ g = lhs.length - k ∧ i = .int .i64 k ∧ Below (w.heap.size + 1) (w.alloc (.cells #[.slice b1 lhs.length c1, .slice b2 code.length c2, .string s, .slice b3 args.length c3] 45)) wr ∧ ∀ j (h : j < lhs.length), j < k → nameB lhs[j] = true)
    case atStart => exact ⟨0, Nat.zero_le _, by omega, rfl, Below.refl _ _, fun j _ h => absurd h (Nat.not_lt_zero _)⟩
    case round =>
      obtain ⟨k, hk, hg, rfl, hbl0, hall⟩ := hrel
      have HG := hide hg
      have HA := hide hall
      have HBL := hide hbl0
      have B1 : Hid (Below w.heap.size w wr) := ((Below.refl _ _).alloc (Nat.le_refl _) _).trans (hbl0.mono (Nat.le_succ _))
      have hz := hbl0.size
      simp only [World.size_alloc] at hz
      have hza1 : w.heap.size < wr.heap.size := by omega
      have k0 : wr.cell? ⟨w.heap.size, 0, none⟩ = some (.slice b1 lhs.length c1) := by rw [hbl0.cell (p := ⟨w.heap.size, 0, none⟩) (Nat.lt_succ_self _), World.cell?_alloc_at _ _ _ _ rfl]; rfl
      have k1 : wr.cell? ⟨w.heap.size, 1, none⟩ = some (.slice b2 code.length c2) := by rw [hbl0.cell (p := ⟨w.heap.size, 1, none⟩) (Nat.lt_succ_self _), World.cell?_alloc_at _ _ _ _ rfl]; rfl
      have k2 : wr.cell? ⟨w.heap.size, 2, none⟩ = some (.string s) := by rw [hbl0.cell (p := ⟨w.heap.size, 2, none⟩) (Nat.lt_succ_self _), World.cell?_alloc_at _ _ _ _ rfl]; rfl
      have k3 : wr.cell? ⟨w.heap.size, 3, none⟩ = some (.slice b3 args.length c3) := by rw [hbl0.cell (p := ⟨w.heap.size, 3, none⟩) (Nat.lt_succ_self _), World.cell?_alloc_at _ _ _ _ rfl]; rfl
      clear hg hall hbl0 hz
      by_cases hlt : k < lhs.length
      · omega
      · go_wp2
        go_ret
        exact ⟨rfl, unhide B1⟩
  have d1 : decide ((lhs.length : Int) < 1) = false := by rw [decide_eq_false_iff_not]; omega
  by_cases g2 : 500 < lhs.length
  · have d2 : decide (500 < (lhs.length : Int)) = true := by rw [decide_eq_true_iff]; omega
    have e : decide (1 ≤ lhs.length ∧ lhs.length ≤ 500 ∧ args.length ≤ 500) = false := by rw [decide_eq_false_iff_not]; omega
    rw [e, Bool.false_and]
    clear e
    go_enter Tryz.func22, Tryz.ntmps22
    go_wp2
    go_loopg [13] lhs.length (fun g i wr => ∃ (k : Nat), k ≤ lhs.length ∧ g = lhs.length - k ∧ i = .int .i64 k ∧ Below (w.heap.size + 1) (w.alloc (.cells #[.slice b1 lhs.length c1, .slice b2 code.length c2, .string s, .slice b3 args.length c3] 45)) wr ∧ ∀ j (h : j < lhs.length), j < k → nameB lhs[j] = true)
    case atStart => exact ⟨0, Nat.zero_le _, by omega, rfl, Below.refl _ _, fun j _ h => absurd h (Nat.not_lt_zero _)⟩
    case round =>
      obtain ⟨k, hk, hg, rfl, hbl0, hall⟩ := hrel
      have HG := hide hg
      have HA := hide hall
      have HBL := hide hbl0
      have B1 : Hid (Below w.heap.size w wr) := ((Below.refl _ _).alloc (Nat.le_refl _) _).trans (hbl0.mono (Nat.le_succ _))
      have hz := hbl0.size
      simp only [World.size_alloc] at hz
      have hza1 : w.heap.size < wr.heap.size := by omega
      have k0 : wr.cell? ⟨w.heap.size, 0, none⟩ = some (.slice b1 lhs.length c1) := by rw [hbl0.cell (p := ⟨w.heap.size, 0, none⟩) (Nat.lt_succ_self _), World.cell?_alloc_at _ _ _ _ rfl]; rfl
      have k1 : wr.cell? ⟨w.heap.size, 1, none⟩ = some (.slice b2 code.length c2) := by rw [hbl0.cell (p := ⟨w.heap.size, 1, none⟩) (Nat.lt_succ_self _), World.cell?_alloc_at _ _ _ _ rfl]; rfl
      have k2 : wr.cell? ⟨w.heap.size, 2, none⟩ = some (.string s) := by rw [hbl0.cell (p := ⟨w.heap.size, 2, none⟩) (Nat.lt_succ_self _), World.cell?_alloc_at _ _ _ _ rfl]; rfl
      have k3 : wr.cell? ⟨w.heap.size, 3, none⟩ = some (.slice b3 args.length c3) := by rw [hbl0.cell (p := ⟨w.heap.size, 3, none⟩) (Nat.lt_succ_self _), World.cell?_alloc_at _ _ _ _ rfl]; rfl
      clear hg hall hbl0 hz
      by_cases hlt : k < lhs.length
      · obtain ⟨b, o, cs, hbo, _, hb, hcs, hc, hR⟩ := unhide HX1 k hlt
        subst hbo
        have hc : ∀ j (hj : j < cs.length), wr.cell? ⟨b, o + k * 1 + j, none⟩ = some cs[j] := fun j hj => by rw [(unhide B1).cell (p := ⟨b, _, none⟩) hb]; exact hc j hj
        obtain ⟨rfl, hsn⟩ := hR
        have c0 := hc 0 (by simp)
        simp only [Nat.mul_one, Nat.add_zero, List.getElem_cons_zero, List.getElem_cons_succ] at c0
        have HC := hide (fun w => l1Name_ok lhs[k] w hsn)
        clear hc hcs hsn
        have hp : nameB lhs[k] = true := List.all_eq_true.1 (unhide HL) _ (List.getElem_mem hlt)
        have A' : ∀ j (h : j < lhs.length), j < k + 1 → nameB lhs[j] = true := by
          intro j h h1
          by_cases e : j = k
          · subst e; exact hp
          · exact unhide HA j h (by omega)
        have HA' := hide A'
        clear A'
        go_wp2_with fail
        refine (unhide HC _).mono ?_
        rintro e w2 ⟨rfl, hb2⟩
        rw [hp]
        go_wp2
        go_roundg (lhs.length - (k + 1))
        case measure => have := unhide HG; omega
        case rel => exact ⟨k + 1, by omega, rfl, by go_num, (unhide HBL).trans (hb2.mono (by have := (unhide HBL).size; simp at this; omega)), unhide HA'⟩
      · go_wp2
        go_ret
        exact ⟨rfl, unhide B1⟩
  have d2 : decide (500 < (lhs.length : Int)) = false := by rw [decide_eq_false_iff_not]; omega
  by_cases g3 : 500 < args.length
  · have d3 : decide (500 < (args.length : Int)) = true := by rw [decide_eq_true_iff]; omega
    have e : decide (1 ≤ lhs.length ∧ lhs.length ≤ 500 ∧ args.length ≤ 500) = false := by rw [decide_eq_false_iff_not]; omega
    rw [e, Bool.false_and]
    clear e
    go_enter Tryz.func22, Tryz.ntmps22
    go_wp2
    go_loopg [13] lhs.length (fun g i wr => ∃ (k : Nat), k ≤ lhs.length ∧ g = lhs.length - k ∧ i = .int .i64 k ∧ Below (w.heap.size + 1) (w.alloc (.cells #[.slice b1 lhs.length c1, .slice b2 code.length c2, .string s, .slice b3 args.length c3] 45)) wr ∧ ∀ j (h : j < lhs.length), j < k → nameB lhs[j] = true)
    case atStart => exact ⟨0, Nat.zero_le _, by omega, rfl, Below.refl _ _, fun j _ h => absurd h (Nat.not_lt_zero _)⟩
    case round =>
      obtain ⟨k, hk, hg, rfl, hbl0, hall⟩ := hrel
      have HG := hide hg
      have HA := hide hall
      have HBL := hide hbl0
      have B1 : Hid (Below w.heap.size w wr) := ((Below.refl _ _).alloc (Nat.le_refl _) _).trans (hbl0.mono (Nat.le_succ _))
      have hz := hbl0.size
      simp only [World.size_alloc] at hz
      have hza1 : w.heap.size < wr.heap.size := by omega
      have k0 : wr.cell? ⟨w.heap.size, 0, none⟩ = some (.slice b1 lhs.length c1) := by rw [hbl0.cell (p := ⟨w.heap.size, 0, none⟩) (Nat.lt_succ_self _), World.cell?_alloc_at _ _ _ _ rfl]; rfl
      have k1 : wr.cell? ⟨w.heap.size, 1, none⟩ = some (.slice b2 code.length c2) := by rw [hbl0.cell (p := ⟨w.heap.size, 1, none⟩) (Nat.lt_succ_self _), World.cell?_alloc_at _ _ _ _ rfl]; rfl
      have k2 : wr.cell? ⟨w.heap.size, 2, none⟩ = some (.string s) := by rw [hbl0.cell (p := ⟨w.heap.size, 2, none⟩) (Nat.lt_succ_self _), World.cell?_alloc_at _ _ _ _ rfl]; rfl
      have k3 : wr.cell? ⟨w.heap.size, 3, none⟩ = some (.slice b3 args.length c3) := by rw [hbl0.cell (p := ⟨w.heap.size, 3, none⟩) (Nat.lt_succ_self _), World.cell?_alloc_at _ _ _ _ rfl]; rfl
      clear hg hall hbl0 hz
      by_cases hlt : k < lhs.length
      · obtain ⟨b, o, cs, hbo, _, hb, hcs, hc, hR⟩ := unhide HX1 k hlt
        subst hbo
        have hc : ∀ j (hj : j < cs.length), wr.cell? ⟨b, o + k * 1 + j, none⟩ = some cs[j] := fun j hj => by rw [(unhide B1).cell (p := ⟨b, _, none⟩) hb]; exact hc j hj
        obtain ⟨rfl, hsn⟩ := hR
        have c0 := hc 0 (by simp)
        simp only [Nat.mul_one, Nat.add_zero, List.getElem_cons_zero, List.getElem_cons_succ] at c0
        have HC := hide (fun w => l1Name_ok lhs[k] w hsn)
        clear hc hcs hsn
        have hp : nameB lhs[k] = true := List.all_eq_true.1 (unhide HL) _ (List.getElem_mem hlt)
        have A' : ∀ j (h : j < lhs.length), j < k + 1 → nameB lhs[j] = true := by
          intro j h h1
          by_cases e : j = k
          · subst e; exact hp
          · exact unhide HA j h (by omega)
        have HA' := hide A'
        clear A'
        go_wp2_with fail
        refine (unhide HC _).mono ?_
        rintro e w2 ⟨rfl, hb2⟩
        rw [hp]
        go_wp2
        go_roundg (lhs.length - (k + 1))
        case measure => have := unhide HG; omega
        case rel => exact ⟨k + 1, by omega, rfl, by go_num, (unhide HBL).trans (hb2.mono (by have := (unhide HBL).size; simp at this; omega)), unhide HA'⟩
      · go_wp2
        go_ret
        exact ⟨rfl, unhide B1⟩
  have d3 : decide (500 < (args.length : Int)) = false := by rw [decide_eq_false_iff_not]; omega
  have e : decide (1 ≤ lhs.length ∧ lhs.length ≤ 500 ∧ args.length ≤ 500) = true := by rw [decide_eq_true_iff]; omega
  rw [e, Bool.true_and]
  clear e
  by_cases g4 : s.size = 0
  · rw [if_pos g4]
    have d4 := empty_yes s g4
    have d4' := isEmpty_yes s g4
    clear g4
    by_cases g5 : lhs.length = 1
    case neg =>
      have e : decide (lhs.length = 1 ∧ args.length = 0) = false := by rw [decide_eq_false_iff_not]; omega
      rw [e, Bool.false_and]
      have d5 : ((lhs.length : Int) != 1) = true := by rw [bne_iff_ne]; omega
      clear e
      go_enter Tryz.func22, Tryz.ntmps22
      go_wp2
      go_loopg [13] lhs.length (fun g i wr => ∃ (k : Nat), k ≤ lhs.length ∧ g = lhs.length - k ∧ i = .int .i64 k ∧ Below (w.heap.size + 1) (w.alloc (.cells #[.slice b1 lhs.length c1, .slice b2 code.length c2, .string s, .slice b3 args.length c3] 45)) wr ∧ ∀ j (h : j < lhs.length), j < k → nameB lhs[j] = true)
      case atStart => exact ⟨0, Nat.zero_le _, by omega, rfl, Below.refl _ _, fun j _ h => absurd h (Nat.not_lt_zero _)⟩
      case round =>
        obtain ⟨k, hk, hg, rfl, hbl0, hall⟩ := hrel
        have HG := hide hg
        have HA := hide hall
        have HBL := hide hbl0
        have B1 : Hid (Below w.heap.size w wr) := ((Below.refl _ _).alloc (Nat.le_refl _) _).trans (hbl0.mono (Nat.le_succ _))
        have hz := hbl0.size
        simp only [World.size_alloc] at hz
        have hza1 : w.heap.size < wr.heap.size := by omega
        have k0 : wr.cell? ⟨w.heap.size, 0, none⟩ = some (.slice b1 lhs.length c1) := by rw [hbl0.cell (p := ⟨w.heap.size, 0, none⟩) (Nat.lt_succ_self _), World.cell?_alloc_at _ _ _ _ rfl]; rfl
        have k1 : wr.cell? ⟨w.heap.size, 1, none⟩ = some (.slice b2 code.length c2) := by rw [hbl0.cell (p := ⟨w.heap.size, 1, none⟩) (Nat.lt_succ_self _), World.cell?_alloc_at _ _ _ _ rfl]; rfl
        have k2 : wr.cell? ⟨w.heap.size, 2, none⟩ = some (.string s) := by rw [hbl0.cell (p := ⟨w.heap.size, 2, none⟩) (Nat.lt_succ_self _), World.cell?_alloc_at _ _ _ _ rfl]; rfl
        have k3 : wr.cell? ⟨w.heap.size, 3, none⟩ = some (.slice b3 args.length c3) := by rw [hbl0.cell (p := ⟨w.heap.size, 3, none⟩) (Nat.lt_succ_self _), World.cell?_alloc_at _ _ _ _ rfl]; rfl
        clear hg hall hbl0 hz
        by_cases hlt : k < lhs.length
        · obtain ⟨b, o, cs, hbo, _, hb, hcs, hc, hR⟩ := unhide HX1 k hlt
          subst hbo
          have hc : ∀ j (hj : j < cs.length), wr.cell? ⟨b, o + k * 1 + j, none⟩ = some cs[j] := fun j hj => by rw [(unhide B1).cell (p := ⟨b, _, none⟩) hb]; exact hc j hj
          obtain ⟨rfl, hsn⟩ := hR
          have c0 := hc 0 (by simp)
          simp only [Nat.mul_one, Nat.add_zero, List.getElem_cons_zero, List.getElem_cons_succ] at c0
          have HC := hide (fun w => l1Name_ok lhs[k] w hsn)
          clear hc hcs hsn
          have hp : nameB lhs[k] = true := List.all_eq_true.1 (unhide HL) _ (List.getElem_mem hlt)
          have A' : ∀ j (h : j < lhs.length), j < k + 1 → nameB lhs[j] = true := by
            intro j h h1
            by_cases e : j = k
            · subst e; exact hp
            · exact unhide HA j h (by omega)
          have HA' := hide A'
          clear A'
          go_wp2_with fail
          refine (unhide HC _).mono ?_
          rintro e w2 ⟨rfl, hb2⟩
          rw [hp]
          go_wp2
          go_roundg (lhs.length - (k + 1))
          case measure => have := unhide HG; omega
          case rel => exact ⟨k + 1, by omega, rfl, by go_num, (unhide HBL).trans (hb2.mono (by have := (unhide HBL).size; simp at this; omega)), unhide HA'⟩
        · go_wp2
          go_ret
          exact ⟨rfl, unhide B1⟩
    have d5 : ((lhs.length : Int) != 1) = false := by rw [bne_eq_false_iff_eq]; omega
    by_cases g6 : args.length = 0
    case neg =>
      have e : decide (lhs.length = 1 ∧ args.length = 0) = false := by rw [decide_eq_false_iff_not]; omega
      rw [e, Bool.false_and]
      have d6 : ((args.length : Int) != 0) = true := by rw [bne_iff_ne]; omega
      clear e g5
      go_enter Tryz.func22, Tryz.ntmps22
      go_wp2
      go_loopg [13] lhs.length (fun g i wr => ∃ (k : Nat), k ≤ lhs.length ∧ g = lhs.length - k ∧ i = .int .i64 k ∧ Below (w.heap.size + 1) (w.alloc (.cells #[.slice b1 lhs.length c1, .slice b2 code.length c2, .string s, .slice b3 args.length c3] 45)) wr ∧ ∀ j (h : j < lhs.length), j < k → nameB lhs[j] = true)
      case atStart => exact ⟨0, Nat.zero_le _, by omega, rfl, Below.refl _ _, fun j _ h => absurd h (Nat.not_lt_zero _)⟩
      case round =>
        obtain ⟨k, hk, hg, rfl, hbl0, hall⟩ := hrel
        have HG := hide hg
        have HA := hide hall
        have HBL := hide hbl0
        have B1 : Hid (Below w.heap.size w wr) := ((Below.refl _ _).alloc (Nat.le_refl _) _).trans (hbl0.mono (Nat.le_succ _))
        have hz := hbl0.size
        simp only [World.size_alloc] at hz
        have hza1 : w.heap.size < wr.heap.size := by omega
        have k0 : wr.cell? ⟨w.heap.size, 0, none⟩ = some (.slice b1 lhs.length c1) := by rw [hbl0.cell (p := ⟨w.heap.size, 0, none⟩) (Nat.lt_succ_self _), World.cell?_alloc_at _ _ _ _ rfl]; rfl
        have k1 : wr.cell? ⟨w.heap.size, 1, none⟩ = some (.slice b2 code.length c2) := by rw [hbl0.cell (p := ⟨w.heap.size, 1, none⟩) (Nat.lt_succ_self _), World.cell?_alloc_at _ _ _ _ rfl]; rfl
        have k2 : wr.cell? ⟨w.heap.size, 2, none⟩ = some (.string s) := by rw [hbl0.cell (p := ⟨w.heap.size, 2, none⟩) (Nat.lt_succ_self _), World.cell?_alloc_at _ _ _ _ rfl]; rfl
        have k3 : wr.cell? ⟨w.heap.size, 3, none⟩ = some (.slice b3 args.length c3) := by rw [hbl0.cell (p := ⟨w.heap.size, 3, none⟩) (Nat.lt_succ_self _), World.cell?_alloc_at _ _ _ _ rfl]; rfl
        clear hg hall hbl0 hz
        by_cases hlt : k < lhs.length
        · obtain ⟨b, o, cs, hbo, _, hb, hcs, hc, hR⟩ := unhide HX1 k hlt
          subst hbo
          have hc : ∀ j (hj : j < cs.length), wr.cell? ⟨b, o + k * 1 + j, none⟩ = some cs[j] := fun j hj => by rw [(unhide B1).cell (p := ⟨b, _, none⟩) hb]; exact hc j hj
          obtain ⟨rfl, hsn⟩ := hR
          have c0 := hc 0 (by simp)
          simp only [Nat.mul_one, Nat.add_zero, List.getElem_cons_zero, List.getElem_cons_succ] at c0
          have HC := hide (fun w => l1Name_ok lhs[k] w hsn)
          clear hc hcs hsn
          have hp : nameB lhs[k] = true := List.all_eq_true.1 (unhide HL) _ (List.getElem_mem hlt)
          have A' : ∀ j (h : j < lhs.length), j < k + 1 → nameB lhs[j] = true := by
            intro j h h1
            by_cases e : j = k
            · subst e; exact hp
            · exact unhide HA j h (by omega)
          have HA' := hide A'
          clear A'
          go_wp2_with fail
          refine (unhide HC _).mono ?_
          rintro e w2 ⟨rfl, hb2⟩
          rw [hp]
          go_wp2
          go_roundg (lhs.length - (k + 1))
          case measure => have := unhide HG; omega
          case rel => exact ⟨k + 1, by omega, rfl, by go_num, (unhide HBL).trans (hb2.mono (by have := (unhide HBL).size; simp at this; omega)), unhide HA'⟩
        · go_wp2
          go_ret
          exact ⟨rfl, unhide B1⟩
    have d6 : ((args.length : Int) != 0) = false := by rw [bne_eq_false_iff_eq]; omega
    have e : decide (lhs.length = 1 ∧ args.length = 0) = true := by rw [decide_eq_true_iff]; omega
    rw [e, Bool.true_and]
    clear e g5 g6
    go_enter Tryz.func22, Tryz.ntmps22
    go_wp2
    go_loopg [13] lhs.length (fun g i wr => ∃ (k : Nat), k ≤ lhs.length ∧ g = lhs.length - k ∧ i = .int .i64 k ∧ Below (w.heap.size + 1) (w.alloc (.cells #[.slice b1 lhs.length c1, .slice b2 code.length c2, .string s, .slice b3 args.length c3] 45)) wr ∧ ∀ j (h : j < lhs.length), j < k → nameB lhs[j] = true)
    case atStart => exact ⟨0, Nat.zero_le _, by omega, rfl, Below.refl _ _, fun j _ h => absurd h (Nat.not_lt_zero _)⟩
    case round =>
      obtain ⟨k, hk, hg, rfl, hbl0, hall⟩ := hrel
      have HG := hide hg
      have HA := hide hall
      have HBL := hide hbl0
      have B1 : Hid (Below w.heap.size w wr) := ((Below.refl _ _).alloc (Nat.le_refl _) _).trans (hbl0.mono (Nat.le_succ _))
      have hz := hbl0.size
      simp only [World.size_alloc] at hz
      have hza1 : w.heap.size < wr.heap.size := by omega
      have k0 : wr.cell? ⟨w.heap.size, 0, none⟩ = some (.slice b1 lhs.length c1) := by rw [hbl0.cell (p := ⟨w.heap.size, 0, none⟩) (Nat.lt_succ_self _), World.cell?_alloc_at _ _ _ _ rfl]; rfl
      have k1 : wr.cell? ⟨w.heap.size, 1, none⟩ = some (.slice b2 code.length c2) := by rw [hbl0.cell (p := ⟨w.heap.size, 1, none⟩) (Nat.lt_succ_self _), World.cell?_alloc_at _ _ _ _ rfl]; rfl
      have k2 : wr.cell? ⟨w.heap.size, 2, none⟩ = some (.string s) := by rw [hbl0.cell (p := ⟨w.heap.size, 2, none⟩) (Nat.lt_succ_self _), World.cell?_alloc_at _ _ _ _ rfl]; rfl
      have k3 : wr.cell? ⟨w.heap.size, 3, none⟩ = some (.slice b3 args.length c3) := by rw [hbl0.cell (p := ⟨w.heap.size, 3, none⟩) (Nat.lt_succ_self _), World.cell?_alloc_at _ _ _ _ rfl]; rfl
      clear hg hall hbl0 hz
      by_cases hlt : k < lhs.length
      · obtain ⟨b, o, cs, hbo, _, hb, hcs, hc, hR⟩ := unhide HX1 k hlt
        subst hbo
        have hc : ∀ j (hj : j < cs.length), wr.cell? ⟨b, o + k * 1 + j, none⟩ = some cs[j] := fun j hj => by rw [(unhide B1).cell (p := ⟨b, _, none⟩) hb]; exact hc j hj
        obtain ⟨rfl, hsn⟩ := hR
        have c0 := hc 0 (by simp)
        simp only [Nat.mul_one, Nat.add_zero, List.getElem_cons_zero, List.getElem_cons_succ] at c0
        have HC := hide (fun w => l1Name_ok lhs[k] w hsn)
        clear hc hcs hsn
        have hp : nameB lhs[k] = true := List.all_eq_true.1 (unhide HL) _ (List.getElem_mem hlt)
        have A' : ∀ j (h : j < lhs.length), j < k + 1 → nameB lhs[j] = true := by
          intro j h h1
          by_cases e : j = k
          · subst e; exact hp
          · exact unhide HA j h (by omega)
        have HA' := hide A'
        clear A'
        go_wp2_with fail
        refine (unhide HC _).mono ?_
        rintro e w2 ⟨rfl, hb2⟩
        rw [hp]
        go_wp2
        go_roundg (lhs.length - (k + 1))
        case measure => have := unhide HG; omega
        case rel => exact ⟨k + 1, by omega, rfl, by go_num, (unhide HBL).trans (hb2.mono (by have := (unhide HBL).size; simp at this; omega)), unhide HA'⟩
      · rename World => w1
        have HE0 := hide ((unhide H2).stays RItem_kept (unhide B1))
        clear HA HG
        go_wp2
        go_loopg [67] 1 (fun g i wr => ∃ (m : Nat), m ≤ 1 ∧ g = 1 - m ∧ i = .int .i64 m ∧ Below (w1.heap.size + 1) (w1.alloc (.cells #[.slice b2 code.length c2] 42)) wr ∧ (0 < m → cdB code = true))
        case atStart => exact ⟨0, Nat.zero_le _, rfl, rfl, Below.refl _ _, fun h => absurd h (Nat.lt_irrefl _)⟩
        case round =>
          obtain ⟨m, hm, hgm, rfl, hblm, hallm⟩ := hrel
          rename World => wv
          have HGM := hide hgm
          have HAM := hide hallm
          have HBM := hide hblm
          have B2 : Hid (Below w.heap.size w wv) := (unhide B1).trans (((Below.refl _ _).alloc (unhide B1).size _).trans (hblm.mono (by have := (unhide B1).size; omega)))
          obtain ⟨hc2, hf2⟩ := bcell (W := w1.alloc (.cells #[.slice b2 code.length c2] 42)) (by simpa using hblm)
          have hz2 := hblm.size
          try simp only [World.size_alloc] at hz2 hc2 hf2
          have hzb2 : w1.heap.size < wv.heap.size := by omega
          have HE : Hid (SlAt 3 32 RItem 0 wv (.slice b2 code.length c2) code) := (unhide HE0).stays RItem_kept (((Below.refl _ _).alloc (Nat.le_refl _) _).trans (hblm.mono (Nat.le_succ _)))
          obtain ⟨_, _, hve, _, _, hex⟩ := unhide HE
          simp only [Value.slice.injEq] at hve
          obtain ⟨rfl, _, rfl⟩ := hve
          have HEX := hide hex
          clear hgm hallm hblm hz2 hex
          by_cases hltm : m < 1
          · have hm0 : m = 0 := by omega
            subst hm0
            cases hsc : scB code
            · have hcd : cdB code = false := by rw [← code_same, hsc]; rfl
              have HF := hide hcd
              clear hcd
              go_wp2_with fail
              refine (l1CodeOK_ok code _ _ (unhide HE)).mono ?_
              rintro e w3 ⟨rfl, hb3⟩
              rw [hsc]
              go_wp2
              go_ret
              exact ⟨ret_bool (unhide HF).symm, (unhide B2).trans (hb3.mono (unhide B2).size)⟩
            · go_wp2_with fail
              refine (l1CodeOK_ok code _ _ (unhide HE)).mono ?_
              rintro e w3 ⟨rfl, hb3⟩
              rw [hsc]
              have B3 := hide ((unhide B2).trans (hb3.mono (unhide B2).size))
              have HB3 := hide hb3
              clear hb3
              go_wp2
              go_loopg [76] code.length (fun g i wr => ∃ (q : Nat), q ≤ code.length ∧ g = code.length - q ∧ i = .int .i64 q ∧ Below w3.heap.size w3 wr ∧ ∀ j (h : j < code.length), j < q → (code[j].op == 25) = false)
              case atStart => exact ⟨0, Nat.zero_le _, by omega, rfl, Below.refl _ _, fun j _ h => absurd h (Nat.not_lt_zero _)⟩
              case round =>
                obtain ⟨q, hq, hg3, rfl, hbl3, hall3⟩ := hrel
                have HG3 := hide hg3
                have HA3 := hide hall3
                have HBV : Hid (Below wv.heap.size wv wr) := (unhide HB3).trans (hbl3.mono (unhide HB3).size)
                clear hg3 hall3
                by_cases hlt3 : q < code.length
                · obtain ⟨b, o, cs, hbo, _, hb, hcs, hc, hR⟩ := unhide HEX q hlt3
                  subst hbo
                  have hc : ∀ j (hj : j < cs.length), wr.cell? ⟨b, o + q * 3 + j, none⟩ = some cs[j] := fun j hj => by rw [(unhide HBV).cell (p := ⟨b, _, none⟩) hb]; exact hc j hj
                  obtain ⟨rfl, hsn, ho, hvl⟩ := hR
                  have e0 := hc 0 (by simp)
                  have e1 := hc 1 (by simp)
                  have e2 := hc 2 (by simp)
                  simp only [Nat.mul_one, Nat.add_zero, List.getElem_cons_zero, List.getElem_cons_succ] at e0 e1 e2
                  clear hc hcs hsn ho hvl
                  cases h25 : (code[q].op == 25)
                  · have A' : ∀ j (h : j < code.length), j < q + 1 → (code[j].op == 25) = false := by
                      intro j h h1
                      by_cases e : j = q
                      · subst e; exact h25
                      · exact unhide HA3 j h (by omega)
                    have HA' := hide A'
                    clear A'
                    go_wp2
                    go_roundg (code.length - (q + 1))
                    case measure => have := unhide HG3; omega
                    case rel => exact ⟨q + 1, by omega, rfl, by go_num, hbl3.trans ((Below.refl _ _).alloc hbl3.size _), unhide HA'⟩
                  · have hcd : cdB code = false := by
                      rw [← code_same, Bool.and_eq_false_iff]
                      right
                      rw [List.all_eq_false]
                      exact ⟨code[q], List.getElem_mem hlt3, by rw [h25]; decide⟩
                    have HF := hide hcd
                    clear hcd
                    go_wp2
                    go_ret
                    exact ⟨ret_bool (unhide HF).symm, (unhide B3).trans ((hbl3.mono (Nat.le_refl _)).trans ((Below.refl _ _).alloc hbl3.size _) |>.mono (unhide B3).size)⟩
                · have hcd : cdB code = true := by
                    rw [← code_same, hsc, Bool.true_and, List.all_eq_true]
                    intro x hx
                    obtain ⟨j, hj, rfl⟩ := List.getElem_of_mem hx
                    rw [unhide HA3 j hj (by omega)]
                    rfl
                  have B4 : Hid (Below w.heap.size w wr) := (unhide B3).trans (hbl3.mono (unhide B3).size)
                  clear hbl3
                  go_wp2
                  go_roundg (1 - (0 + 1))
                  case measure => have := unhide HGM; omega
                  case rel => exact ⟨1, Nat.le_refl _, rfl, rfl, (unhide HBM).trans ((unhide HBV).mono (by have := (unhide HBM).size; simp at this; omega)), fun _ => hcd⟩
          · have hm1 : 0 < m := by omega
            have HF := hide (unhide HAM hm1)
            clear HE HEX
            go_wp2
            go_ret
            exact ⟨ret_bool (unhide HF).symm, unhide B2⟩
  · rw [if_neg g4]
    have d4 := empty_no s g4
    have d4' := isEmpty_no s g4
    clear g4
    cases hnm : nameB s
    · rw [Bool.false_and, Bool.false_and]
      go_enter Tryz.func22, Tryz.ntmps22
      go_wp2
      go_loopg [13] lhs.length (fun g i wr => ∃ (k : Nat), k ≤ lhs.length ∧ g = lhs.length - k ∧ i = .int .i64 k ∧ Below (w.heap.size + 1) (w.alloc (.cells #[.slice b1 lhs.length c1, .slice b2 code.length c2, .string s, .slice b3 args.length c3] 45)) wr ∧ ∀ j (h : j < lhs.length), j < k → nameB lhs[j] = true)
      case atStart => exact ⟨0, Nat.zero_le _, by omega, rfl, Below.refl _ _, fun j _ h => absurd h (Nat.not_lt_zero _)⟩
      case round =>
        obtain ⟨k, hk, hg, rfl, hbl0, hall⟩ := hrel
        have HG := hide hg
        have HA := hide hall
        have HBL := hide hbl0
        have B1 : Hid (Below w.heap.size w wr) := ((Below.refl _ _).alloc (Nat.le_refl _) _).trans (hbl0.mono (Nat.le_succ _))
        have hz := hbl0.size
        simp only [World.size_alloc] at hz
        have hza1 : w.heap.size < wr.heap.size := by omega
        have k0 : wr.cell? ⟨w.heap.size, 0, none⟩ = some (.slice b1 lhs.length c1) := by rw [hbl0.cell (p := ⟨w.heap.size, 0, none⟩) (Nat.lt_succ_self _), World.cell?_alloc_at _ _ _ _ rfl]; rfl
        have k1 : wr.cell? ⟨w.heap.size, 1, none⟩ = some (.slice b2 code.length c2) := by rw [hbl0.cell (p := ⟨w.heap.size, 1, none⟩) (Nat.lt_succ_self _), World.cell?_alloc_at _ _ _ _ rfl]; rfl
        have k2 : wr.cell? ⟨w.heap.size, 2, none⟩ = some (.string s) := by rw [hbl0.cell (p := ⟨w.heap.size, 2, none⟩) (Nat.lt_succ_self _), World.cell?_alloc_at _ _ _ _ rfl]; rfl
        have k3 : wr.cell? ⟨w.heap.size, 3, none⟩ = some (.slice b3 args.length c3) := by rw [hbl0.cell (p := ⟨w.heap.size, 3, none⟩) (Nat.lt_succ_self _), World.cell?_alloc_at _ _ _ _ rfl]; rfl
        clear hg hall hbl0 hz
        by_cases hlt : k < lhs.length
        · obtain ⟨b, o, cs, hbo, _, hb, hcs, hc, hR⟩ := unhide HX1 k hlt
          subst hbo
          have hc : ∀ j (hj : j < cs.length), wr.cell? ⟨b, o + k * 1 + j, none⟩ = some cs[j] := fun j hj => by rw [(unhide B1).cell (p := ⟨b, _, none⟩) hb]; exact hc j hj
          obtain ⟨rfl, hsn⟩ := hR
          have c0 := hc 0 (by simp)
          simp only [Nat.mul_one, Nat.add_zero, List.getElem_cons_zero, List.getElem_cons_succ] at c0
          have HC := hide (fun w => l1Name_ok lhs[k] w hsn)
          clear hc hcs hsn
          have hp : nameB lhs[k] = true := List.all_eq_true.1 (unhide HL) _ (List.getElem_mem hlt)
          have A' : ∀ j (h : j < lhs.length), j < k + 1 → nameB lhs[j] = true := by
            intro j h h1
            by_cases e : j = k
            · subst e; exact hp
            · exact unhide HA j h (by omega)
          have HA' := hide A'
          clear A'
          go_wp2_with fail
          refine (unhide HC _).mono ?_
          rintro e w2 ⟨rfl, hb2⟩
          rw [hp]
          go_wp2
          go_roundg (lhs.length - (k + 1))
          case measure => have := unhide HG; omega
          case rel => exact ⟨k + 1, by omega, rfl, by go_num, (unhide HBL).trans (hb2.mono (by have := (unhide HBL).size; simp at this; omega)), unhide HA'⟩
        · go_wp2_with fail
          refine (l1Name_ok s _ hs).mono ?_
          rintro e w2 ⟨rfl, hb2⟩
          rw [hnm]
          go_wp2
          go_ret
          exact ⟨rfl, (unhide B1).trans (hb2.mono (unhide B1).size)⟩
    rw [Bool.true_and]
    by_cases g5 : code.length = 0
    case neg =>
      have e : decide (code.length = 0) = false := by simpa using g5
      rw [e, Bool.false_and]
      have d5 : ((code.length : Int) != 0) = true := by rw [bne_iff_ne]; omega
      clear e
      go_enter Tryz.func22, Tryz.ntmps22
      go_wp2
      go_loopg [13] lhs.length (fun g i wr => ∃ (k : Nat), k ≤ lhs.length ∧ g = lhs.length - k ∧ i = .int .i64 k ∧ Below (w.heap.size + 1) (w.alloc (.cells #[.slice b1 lhs.length c1, .slice b2 code.length c2, .string s, .slice b3 args.length c3] 45)) wr ∧ ∀ j (h : j < lhs.length), j < k → nameB lhs[j] = true)
      case atStart => exact ⟨0, Nat.zero_le _, by omega, rfl, Below.refl _ _, fun j _ h => absurd h (Nat.not_lt_zero _)⟩
      case round =>
        obtain ⟨k, hk, hg, rfl, hbl0, hall⟩ := hrel
        have HG := hide hg
        have HA := hide hall
        have HBL := hide hbl0
        have B1 : Hid (Below w.heap.size w wr) := ((Below.refl _ _).alloc (Nat.le_refl _) _).trans (hbl0.mono (Nat.le_succ _))
        have hz := hbl0.size
        simp only [World.size_alloc] at hz
        have hza1 : w.heap.size < wr.heap.size := by omega
        have k0 : wr.cell? ⟨w.heap.size, 0, none⟩ = some (.slice b1 lhs.length c1) := by rw [hbl0.cell (p := ⟨w.heap.size, 0, none⟩) (Nat.lt_succ_self _), World.cell?_alloc_at _ _ _ _ rfl]; rfl
        have k1 : wr.cell? ⟨w.heap.size, 1, none⟩ = some (.slice b2 code.length c2) := by rw [hbl0.cell (p := ⟨w.heap.size, 1, none⟩) (Nat.lt_succ_self _), World.cell?_alloc_at _ _ _ _ rfl]; rfl
        have k2 : wr.cell? ⟨w.heap.size, 2, none⟩ = some (.string s) := by rw [hbl0.cell (p := ⟨w.heap.size, 2, none⟩) (Nat.lt_succ_self _), World.cell?_alloc_at _ _ _ _ rfl]; rfl
        have k3 : wr.cell? ⟨w.heap.size, 3, none⟩ = some (.slice b3 args.length c3) := by rw [hbl0.cell (p := ⟨w.heap.size, 3, none⟩) (Nat.lt_succ_self _), World.cell?_alloc_at _ _ _ _ rfl]; rfl
        clear hg hall hbl0 hz
        by_cases hlt : k < lhs.length
        · obtain ⟨b, o, cs, hbo, _, hb, hcs, hc, hR⟩ := unhide HX1 k hlt
          subst hbo
          have hc : ∀ j (hj : j < cs.length), wr.cell? ⟨b, o + k * 1 + j, none⟩ = some cs[j] := fun j hj => by rw [(unhide B1).cell (p := ⟨b, _, none⟩) hb]; exact hc j hj
          obtain ⟨rfl, hsn⟩ := hR
          have c0 := hc 0 (by simp)
          simp only [Nat.mul_one, Nat.add_zero, List.getElem_cons_zero, List.getElem_cons_succ] at c0
          have HC := hide (fun w => l1Name_ok lhs[k] w hsn)
          clear hc hcs hsn
          have hp : nameB lhs[k] = true := List.all_eq_true.1 (unhide HL) _ (List.getElem_mem hlt)
          have A' : ∀ j (h : j < lhs.length), j < k + 1 → nameB lhs[j] = true := by
            intro j h h1
            by_cases e : j = k
            · subst e; exact hp
            · exact unhide HA j h (by omega)
          have HA' := hide A'
          clear A'
          go_wp2_with fail
          refine (unhide HC _).mono ?_
          rintro e w2 ⟨rfl, hb2⟩
          rw [hp]
          go_wp2
          go_roundg (lhs.length - (k + 1))
          case measure => have := unhide HG; omega
          case rel => exact ⟨k + 1, by omega, rfl, by go_num, (unhide HBL).trans (hb2.mono (by have := (unhide HBL).size; simp at this; omega)), unhide HA'⟩
        · rename World => w1
          go_wp2_with fail
          refine (l1Name_ok s _ hs).mono ?_
          rintro e w2 ⟨rfl, hb⟩
          obtain ⟨hc2, hf2⟩ := bcell hb
          have hz := hb.size
          have B2 : Hid (Below w.heap.size w w2) := (unhide B1).trans (hb.mono (unhide B1).size)
          try simp only [World.size_alloc] at hz hc2 hf2
          have hza2 : w.heap.size < w2.heap.size := by first | omega | (simp at hz; omega)
          clear hb hz
          rw [hnm]
          go_wp2
          go_ret
          exact ⟨rfl, unhide B2⟩
    have e : decide (code.length = 0) = true := by simpa using g5
    rw [e, Bool.true_and]
    have d5 : ((code.length : Int) != 0) = false := by rw [bne_eq_false_iff_eq]; omega
    clear e g5
    go_enter Tryz.func22, Tryz.ntmps22
    go_wp2
    go_loopg [13] lhs.length (fun g i wr => ∃ (k : Nat), k ≤ lhs.length ∧ g = lhs.length - k ∧ i = .int .i64 k ∧ Below (w.heap.size + 1) (w.alloc (.cells #[.slice b1 lhs.length c1, .slice b2 code.length c2, .string s, .slice b3 args.length c3] 45)) wr ∧ ∀ j (h : j < lhs.length), j < k → nameB lhs[j] = true)
    case atStart => exact ⟨0, Nat.zero_le _, by omega, rfl, Below.refl _ _, fun j _ h => absurd h (Nat.not_lt_zero _)⟩
    case round =>
      obtain ⟨k, hk, hg, rfl, hbl0, hall⟩ := hrel
      have HG := hide hg
      have HA := hide hall
      have HBL := hide hbl0
      have B1 : Hid (Below w.heap.size w wr) := ((Below.refl _ _).alloc (Nat.le_refl _) _).trans (hbl0.mono (Nat.le_succ _))
      have hz := hbl0.size
      simp only [World.size_alloc] at hz
      have hza1 : w.heap.size < wr.heap.size := by omega
      have k0 : wr.cell? ⟨w.heap.size, 0, none⟩ = some (.slice b1 lhs.length c1) := by rw [hbl0.cell (p := ⟨w.heap.size, 0, none⟩) (Nat.lt_succ_self _), World.cell?_alloc_at _ _ _ _ rfl]; rfl
      have k1 : wr.cell? ⟨w.heap.size, 1, none⟩ = some (.slice b2 code.length c2) := by rw [hbl0.cell (p := ⟨w.heap.size, 1, none⟩) (Nat.lt_succ_self _), World.cell?_alloc_at _ _ _ _ rfl]; rfl
      have k2 : wr.cell? ⟨w.heap.size, 2, none⟩ = some (.string s) := by rw [hbl0.cell (p := ⟨w.heap.size, 2, none⟩) (Nat.lt_succ_self _), World.cell?_alloc_at _ _ _ _ rfl]; rfl
      have k3 : wr.cell? ⟨w.heap.size, 3, none⟩ = some (.slice b3 args.length c3) := by rw [hbl0.cell (p := ⟨w.heap.size, 3, none⟩) (Nat.lt_succ_self _), World.cell?_alloc_at _ _ _ _ rfl]; rfl
      clear hg hall hbl0 hz
      by_cases hlt : k < lhs.length
      · obtain ⟨b, o, cs, hbo, _, hb, hcs, hc, hR⟩ := unhide HX1 k hlt
        subst hbo
        have hc : ∀ j (hj : j < cs.length), wr.cell? ⟨b, o + k * 1 + j, none⟩ = some cs[j] := fun j hj => by rw [(unhide B1).cell (p := ⟨b, _, none⟩) hb]; exact hc j hj
        obtain ⟨rfl, hsn⟩ := hR
        have c0 := hc 0 (by simp)
        simp only [Nat.mul_one, Nat.add_zero, List.getElem_cons_zero, List.getElem_cons_succ] at c0
        have HC := hide (fun w => l1Name_ok lhs[k] w hsn)
        clear hc hcs hsn
        have hp : nameB lhs[k] = true := List.all_eq_true.1 (unhide HL) _ (List.getElem_mem hlt)
        have A' : ∀ j (h : j < lhs.length), j < k + 1 → nameB lhs[j] = true := by
          intro j h h1
          by_cases e : j = k
          · subst e; exact hp
          · exact unhide HA j h (by omega)
        have HA' := hide A'
        clear A'
        go_wp2_with fail
        refine (unhide HC _).mono ?_
        rintro e w2 ⟨rfl, hb2⟩
        rw [hp]
        go_wp2
        go_roundg (lhs.length - (k + 1))
        case measure => have := unhide HG; omega
        case rel => exact ⟨k + 1, by omega, rfl, by go_num, (unhide HBL).trans (hb2.mono (by have := (unhide HBL).size; simp at this; omega)), unhide HA'⟩
      · rename World => w1
        clear HA HG
        go_wp2_with fail
        refine (l1Name_ok s _ hs).mono ?_
        rintro e w2 ⟨rfl, hb⟩
        obtain ⟨hc2, hf2⟩ := bcell hb
        have hz := hb.size
        have B2 : Hid (Below w.heap.size w w2) := (unhide B1).trans (hb.mono (unhide B1).size)
        try simp only [World.size_alloc] at hz hc2 hf2
        have hza2 : w.heap.size < w2.heap.size := by first | omega | (simp at hz; omega)
        clear hb hz
        rw [hnm]
        have HAL := hide ((unhide H3).stays RItems_kept (unhide B2))
        obtain ⟨_, _, hva, _, _, hax⟩ := unhide HAL
        simp only [Value.slice.injEq] at hva
        obtain ⟨rfl, _, rfl⟩ := hva
        have HAX := hide hax
        clear hax HAL
        go_wp2
        go_loopg [67] args.length (fun g i wr => ∃ (m : Nat), m ≤ args.length ∧ g = args.length - m ∧ i = .int .i64 m ∧ Below w2.heap.size w2 wr ∧ ∀ j (h : j < args.length), j < m → cdB args[j] = true)
        case atStart => exact ⟨0, Nat.zero_le _, by omega, rfl, Below.refl _ _, fun j _ h => absurd h (Nat.not_lt_zero _)⟩
        case round =>
          obtain ⟨m, hm, hgm, rfl, hblm, hallm⟩ := hrel
          rename World => wv
          have HGM := hide hgm
          have HAM := hide hallm
          have HBM := hide hblm
          have BV : Hid (Below w.heap.size w wv) := (unhide B2).trans (hblm.mono (unhide B2).size)
          clear hgm hallm hblm
          by_cases hltm : m < args.length
          · obtain ⟨ba, oa, csa, hbo, _, hba, hcsa, hca, hRa⟩ := unhide HAX m hltm
            subst hbo
            have hca : ∀ j (hj : j < csa.length), wv.cell? ⟨ba, oa + m * 1 + j, none⟩ = some csa[j] := fun j hj => by rw [(unhide HBM).cell (p := ⟨ba, _, none⟩) hba]; exact hca j hj
            have hRa := RItems_kept.stays _ _ _ _ _ (unhide HBM) hRa
            obtain ⟨va, rfl, hE⟩ := hRa
            obtain ⟨be, ce, rfl⟩ := hE.shape
            have r0 := hca 0 (by simp)
            simp only [Nat.mul_one, Nat.add_zero, List.getElem_cons_zero, List.getElem_cons_succ] at r0
            have HE := hide hE
            obtain ⟨_, _, hve, _, hne, hex⟩ := hE
            simp only [Value.slice.injEq] at hve
            obtain ⟨rfl, _, rfl⟩ := hve
            unfold Len at hne
            have HEX := hide hex
            have FALL : cdB args[m] = false → args.all cdB = false := fun h => by
              rw [List.all_eq_false]
              exact ⟨args[m], List.getElem_mem hltm, by rw [h]; decide⟩
            have AALL : cdB args[m] = true → ∀ j (h : j < args.length), j < m + 1 → cdB args[j] = true := fun hc j h h1 => by
              by_cases e : j = m
              · subst e; exact hc
              · exact unhide HAM j h (by omega)
            have HFALL := hide FALL
            have HAALL := hide AALL
            clear hex hca hcsa FALL AALL
            generalize args[m] = el at *
            cases hsc : scB el
            · have hcd : cdB el = false := by rw [← code_same, hsc]; rfl
              have HF := hide (unhide HFALL hcd)
              clear hcd
              go_wp2_with fail
              refine (l1CodeOK_ok el _ _ (unhide HE)).mono ?_
              rintro e w3 ⟨rfl, hb3⟩
              rw [hsc]
              go_wp2
              go_ret
              exact ⟨ret_bool (unhide HF).symm, (unhide BV).trans (hb3.mono (unhide BV).size)⟩
            · go_wp2_with fail
              refine (l1CodeOK_ok el _ _ (unhide HE)).mono ?_
              rintro e w3 ⟨rfl, hb3⟩
              rw [hsc]
              have B3 := hide ((unhide BV).trans (hb3.mono (unhide BV).size))
              have HB3 := hide hb3
              clear hb3
              go_wp2
              go_loopg [76] el.length (fun g i wr => ∃ (q : Nat), q ≤ el.length ∧ g = el.length - q ∧ i = .int .i64 q ∧ Below w3.heap.size w3 wr ∧ ∀ j (h : j < el.length), j < q → (el[j].op == 25) = false)
              case atStart => exact ⟨0, Nat.zero_le _, by omega, rfl, Below.refl _ _, fun j _ h => absurd h (Nat.not_lt_zero _)⟩
              case round =>
                obtain ⟨q, hq, hg3, rfl, hbl3, hall3⟩ := hrel
                have HG3 := hide hg3
                have HA3 := hide hall3
                have HBV : Hid (Below wv.heap.size wv wr) := (unhide HB3).trans (hbl3.mono (unhide HB3).size)
                clear hg3 hall3
                by_cases hlt3 : q < el.length
                · obtain ⟨b, o, cs, hbo, _, hb, hcs, hc, hR⟩ := unhide HEX q hlt3
                  subst hbo
                  have hc : ∀ j (hj : j < cs.length), wr.cell? ⟨b, o + q * 3 + j, none⟩ = some cs[j] := fun j hj => by rw [(unhide HBV).cell (p := ⟨b, _, none⟩) hb]; exact hc j hj
                  obtain ⟨rfl, hsn, ho, hvl⟩ := hR
                  have e0 := hc 0 (by simp)
                  have e1 := hc 1 (by simp)
                  have e2 := hc 2 (by simp)
                  simp only [Nat.mul_one, Nat.add_zero, List.getElem_cons_zero, List.getElem_cons_succ] at e0 e1 e2
                  clear hc hcs hsn ho hvl
                  cases h25 : (el[q].op == 25)
                  · have A' : ∀ j (h : j < el.length), j < q + 1 → (el[j].op == 25) = false := by
                      intro j h h1
                      by_cases e : j = q
                      · subst e; exact h25
                      · exact unhide HA3 j h (by omega)
                    have HA' := hide A'
                    clear A'
                    go_wp2
                    go_roundg (el.length - (q + 1))
                    case measure => have := unhide HG3; omega
                    case rel => exact ⟨q + 1, by omega, rfl, by go_num, hbl3.trans ((Below.refl _ _).alloc hbl3.size _), unhide HA'⟩
                  · have hcd : cdB el = false := by
                      rw [← code_same, Bool.and_eq_false_iff]
                      right
                      rw [List.all_eq_false]
                      exact ⟨el[q], List.getElem_mem hlt3, by rw [h25]; decide⟩
                    have HF := hide (unhide HFALL hcd)
                    clear hcd
                    go_wp2
                    go_ret
                    exact ⟨ret_bool (unhide HF).symm, (unhide B3).trans ((hbl3.mono (Nat.le_refl _)).trans ((Below.refl _ _).alloc hbl3.size _) |>.mono (unhide B3).size)⟩
                · have hcd : cdB el = true := by
                    rw [← code_same, hsc, Bool.true_and, List.all_eq_true]
                    intro x hx
                    obtain ⟨j, hj, rfl⟩ := List.getElem_of_mem hx
                    rw [unhide HA3 j hj (by omega)]
                    rfl
                  have B4 : Hid (Below w.heap.size w wr) := (unhide B3).trans (hbl3.mono (unhide B3).size)
                  clear hbl3
                  go_wp2
                  go_roundg (args.length - (m + 1))
                  case measure => have := unhide HGM; omega
                  case rel => exact ⟨m + 1, by omega, rfl, by go_num, (unhide HBM).trans ((unhide HBV).mono (unhide HBM).size), unhide HAALL hcd⟩
          · have HF : Hid (args.all cdB = true) := by
              show args.all cdB = true
              rw [List.all_eq_true]
              intro x hx
              obtain ⟨j, hj, rfl⟩ := List.getElem_of_mem hx
              exact unhide HAM j hj (by omega)
            go_wp2
            go_ret
            exact ⟨ret_bool (unhide HF).symm, unhide BV⟩

end Go.Proofs.YtlgeioedgaajoaaGreatDoor
