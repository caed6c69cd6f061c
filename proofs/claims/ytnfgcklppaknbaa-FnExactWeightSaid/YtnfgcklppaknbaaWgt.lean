import Derived.Test.YtnfgcklppaknbaaSpecEq
import Derived.Test.YtnfgcklppaknbaaVars
namespace Go.Proofs.Ytnfgcklppaknbaa
open Go.RowKit
set_option linter.unusedSimpArgs false
set_option linter.unusedVariables false

def fbyB (op : Int) : Bool := op == 21 || op == 22
def codesOf (e : DEq) : List (List DItem) := if e.call.size = 0 then [e.code] else e.args
/-- Item i of the code is an inner fby; emp: the code is that of an expression equation. -/
def innB (emp : Bool) (code : List DItem) (i : Nat) : Bool := (match code[i]? with | some t => fbyB t.op | none => false) && !(emp && i + 1 == code.length)
def innTo (emp : Bool) (code : List DItem) : Nat → Nat
  | 0 => 0
  | k + 1 => innTo emp code k + (if innB emp code k then 1 else 0)
def innerTo (emp : Bool) (codes : List (List DItem)) : Nat → Nat
  | 0 => 0
  | k + 1 => innerTo emp codes k + (match codes[k]? with | some c => innTo emp c c.length | none => 0)
def innerN (e : DEq) : Nat := innerTo (decide (e.call.size = 0)) (codesOf e) (codesOf e).length
def lensTo (codes : List (List DItem)) : Nat → Nat
  | 0 => 0
  | k + 1 => lensTo codes k + (match codes[k]? with | some c => c.length | none => 0)

theorem innTo_le (emp : Bool) (code : List DItem) (k : Nat) : innTo emp code k ≤ k := by
  induction k with
  | zero => exact Nat.le_refl _
  | succ k ih => unfold innTo; split <;> omega
theorem innerTo_le (emp : Bool) (codes : List (List DItem)) (k : Nat) : innerTo emp codes k ≤ lensTo codes k := by
  induction k with
  | zero => exact Nat.le_refl _
  | succ k ih =>
    unfold innerTo lensTo
    cases codes[k]? with
    | none => simpa using ih
    | some c => have := innTo_le emp c c.length; simp only; omega
theorem lensTo_le (codes : List (List DItem)) (B : Nat) (h : ∀ c, c ∈ codes → c.length ≤ B) (k : Nat) : lensTo codes k ≤ k * B := by
  induction k with
  | zero => simp [lensTo]
  | succ k ih =>
    unfold lensTo
    rw [Nat.add_mul]
    cases hc : codes[k]? with
    | none => simp only; omega
    | some c =>
      have := h c (List.mem_of_getElem? hc)
      simp only
      omega

theorem fby_cases (op : Int) (w : World) :
    Calls Try.prog 61 #[.int .i64 op] w fun e w' => e = .returned (.bool (fbyB op)) ∧ w' = w := by
  cases h1 : (op == 21) <;> cases h2 : (op == 22)
  all_goals
    have e : fbyB op = (op == 21 || op == 22) := rfl
    rw [h1, h2] at e
    rw [e]
    clear e
    go_enter Try.func61, Try.ntmps61
    go_wp2
    go_ret
    exact ⟨rfl, rfl⟩

set_option maxHeartbeats 400000 in
theorem l2Codes_ok (x : DEq) (a1 a2 a3 : Value) (w : World) (h2 : SlAt 3 32 RItem 0 w a2 x.code) (h3 : SlAt 1 24 RItems 0 w a3 x.args) :
    Calls Try.prog 36 #[.agg #[a1, a2, .string x.call, a3]] w fun e w' => ∃ v, e = .returned v ∧ SlAt 1 24 RItems 0 w' v (codesOf x) ∧ Below w.heap.size w w' := by
  obtain ⟨lhs, code, s, args⟩ := x
  simp only [codesOf] at *
  obtain ⟨b2, c2, rfl⟩ := h2.shape
  obtain ⟨b3, c3, rfl⟩ := h3.shape
  have H2 := hide h2
  have H3 := hide h3
  clear h2 h3
  have B0 := hide ((Below.refl w.heap.size w).alloc (Nat.le_refl _) (.cells #[a1, .slice b2 code.length c2, .string s, .slice b3 args.length c3] 51))
  by_cases g : s.size = 0
  · rw [if_pos g]
    have d4 := empty_yes s g
    have d4' := isEmpty_yes s g
    have HO := hide (one_at 48 ((unhide H2).stays RItem_kept (unhide B0)))
    clear g
    go_enter Try.func36, Try.ntmps36
    go_wp2
    go_ret
    exact ⟨_, rfl, by simpa using unhide HO, (unhide B0).trans ((Below.refl _ _).alloc (unhide B0).size _)⟩
  · rw [if_neg g]
    have d4 := empty_no s g
    have d4' := isEmpty_no s g
    clear g
    go_enter Try.func36, Try.ntmps36
    go_wp2
    go_ret
    exact ⟨_, rfl, (unhide H3).stays RItems_kept (unhide B0), unhide B0⟩

set_option maxHeartbeats 2000000 in
theorem l2Inner_ok (x : DEq) (a1 a2 a3 : Value) (w : World) (h2 : SlAt 3 32 RItem 0 w a2 x.code) (h3 : SlAt 1 24 RItems 0 w a3 x.args) (hcl : ∀ c, c ∈ codesOf x → c.length ≤ 3000) (hcn : (codesOf x).length ≤ 500) :
    Calls Try.prog 35 #[.agg #[a1, a2, .string x.call, a3]] w (Ans (.int .i64 (innerN x)) w) := by
  obtain ⟨lhs, code, s, args⟩ := x
  simp only [innerN] at *
  obtain ⟨b2, c2, rfl⟩ := h2.shape
  obtain ⟨b3, c3, rfl⟩ := h3.shape
  have H2 := hide h2
  have H3 := hide h3
  clear h2 h3
  have B0 := hide ((Below.refl w.heap.size w).alloc (Nat.le_refl _) (.cells #[a1, .slice b2 code.length c2, .string s, .slice b3 args.length c3] 51))
  by_cases g : s.size = 0
  · have e : decide (s.size = 0) = true := by simpa using g
    rw [e]
    have d4 := empty_yes s g
    have d4' := isEmpty_yes s g
    clear g e
    go_enter Try.func35, Try.ntmps35
    go_wp2_with fail
    refine (l2Codes_ok ⟨lhs, code, s, args⟩ _ _ _ _ ((unhide H2).stays RItem_kept (unhide B0)) ((unhide H3).stays RItems_kept (unhide B0))).mono ?_
    rintro e w1 ⟨vc, rfl, hVC, hb1⟩
    have HBX1 := hide (box_cell (B := 0) (show Below (w.heap.size + 1) _ w1 by simpa using hb1) 2)
    have HBB1 : Hid (Below (w.heap.size + 1) (w.alloc (.cells #[a1, .slice b2 code.length c2, .string s, .slice b3 args.length c3] 51)) w1) := by
      show Below (w.heap.size + 1) _ w1
      simpa using hb1
    have B1 : Hid (Below w.heap.size w w1) := (unhide B0).trans (hb1.mono (unhide B0).size)
    generalize codesOf ⟨lhs, code, s, args⟩ = cds at *
    obtain ⟨bv, cv, rfl⟩ := hVC.shape
    obtain ⟨_, _, hvv, _, hvn, hvx⟩ := hVC
    simp only [Value.slice.injEq] at hvv
    obtain ⟨rfl, _, rfl⟩ := hvv
    unfold Len at hvn
    have HVX := hide hvx
    clear hvx hb1
    go_wp2
    go_loopg [3, 11] cds.length (fun g n i wr => ∃ (m : Nat), m ≤ cds.length ∧ g = cds.length - m ∧ i = .int .i64 m ∧ n = .int .i64 (innerTo true cds m) ∧ Below w1.heap.size w1 wr)
    case atStart => exact ⟨0, Nat.zero_le _, by omega, rfl, rfl, Below.refl _ _⟩
    case round =>
      obtain ⟨m, hm, hgm, rfl, rfl, hblm⟩ := hrel
      rename World => wv
      have HGM := hide hgm
      have HBM := hide hblm
      have BV : Hid (Below w.heap.size w wv) := (unhide B1).trans (hblm.mono (unhide B1).size)
      clear hgm hblm
      by_cases hltm : m < cds.length
      · obtain ⟨ba, oa, csa, hbo, _, hba, hcsa, hca, hRa⟩ := unhide HVX m hltm
        subst hbo
        have hca : ∀ j (hj : j < csa.length), wv.cell? ⟨ba, oa + m * 1 + j, none⟩ = some csa[j] := fun j hj => by rw [(unhide HBM).cell (p := ⟨ba, _, none⟩) hba]; exact hca j hj
        have hRa := RItems_kept.stays _ _ _ _ _ (unhide HBM) hRa
        obtain ⟨va, rfl, hE⟩ := hRa
        obtain ⟨be, ce, rfl⟩ := hE.shape
        have r0 := hca 0 (by simp)
        simp only [Nat.mul_one, Nat.add_zero, List.getElem_cons_zero, List.getElem_cons_succ] at r0
        obtain ⟨_, _, hve, _, hne, hex⟩ := hE
        simp only [Value.slice.injEq] at hve
        obtain ⟨rfl, _, rfl⟩ := hve
        unfold Len at hne
        have HEX := hide hex
        have SM : innerTo true cds (m + 1) = innerTo true cds m + innTo true cds[m] cds[m].length := by
          rw [innerTo, List.getElem?_eq_getElem hltm]
        have hbnd := innerTo_le true cds m
        have hbn2 := lensTo_le cds 3000 hcl m
        have hle := hcl cds[m] (List.getElem_mem hltm)
        have HSM := hide SM
        clear SM hex hca hcsa
        generalize cds[m] = el at *
        generalize innerTo true cds m = n0 at *
        have hn0 : n0 ≤ 3000 * cds.length := by
          have : m * 3000 ≤ cds.length * 3000 := Nat.mul_le_mul_right _ hm
          omega
        clear hbnd hbn2
        go_wp2
        go_loopg [3, 17] el.length (fun g n i wr => ∃ (q : Nat), q ≤ el.length ∧ g = el.length - q ∧ i = .int .i64 q ∧ n = .int .i64 ((n0 + innTo true el q : Nat) : Int) ∧ Below wv.heap.size wv wr)
        case atStart => exact ⟨0, Nat.zero_le _, by omega, rfl, rfl, Below.refl _ _⟩
        case round =>
          obtain ⟨q, hq, hg3, rfl, rfl, hbl3⟩ := hrel
          have HG3 := hide hg3
          have HB3 := hide hbl3
          have hib := innTo_le true el q
          clear hg3 hbl3
          by_cases hlt3 : q < el.length
          · obtain ⟨b, o, cs, hbo, _, hb, hcs, hc, hR⟩ := unhide HEX q hlt3
            subst hbo
            have hc : ∀ j (hj : j < cs.length), wr.cell? ⟨b, o + q * 3 + j, none⟩ = some cs[j] := fun j hj => by rw [(unhide HB3).cell (p := ⟨b, _, none⟩) hb]; exact hc j hj
            obtain ⟨rfl, hsn, ho, hvl⟩ := hR
            have e0 := hc 0 (by simp)
            have e1 := hc 1 (by simp)
            have e2 := hc 2 (by simp)
            simp only [Nat.mul_one, Nat.add_zero, List.getElem_cons_zero, List.getElem_cons_succ] at e0 e1 e2
            have hw1v : w1.heap.size ≤ wr.heap.size := Nat.le_trans (unhide HBM).size (unhide HB3).size
            have hww1 : w.heap.size + 1 ≤ w1.heap.size := by have := (unhide HBB1).size; simpa using this
            have k2 : wr.cell? ⟨w.heap.size, 2, none⟩ = some (.string s) := by
              rw [(unhide HB3).cell (p := ⟨w.heap.size, 2, none⟩) (show w.heap.size < wv.heap.size by have := (unhide HBM).size; omega), (unhide HBM).cell (p := ⟨w.heap.size, 2, none⟩) (show w.heap.size < w1.heap.size by omega)]
              exact (unhide HBX1).trans rfl
            have hwr : w.heap.size < wr.heap.size := by omega
            clear hc hcs hsn ho hvl
            cases hf : fbyB el[q].op
            · have S : innTo true el (q + 1) = innTo true el q := by
                rw [innTo, innB, List.getElem?_eq_getElem hlt3]
                simp [hf]
              have HS := hide S
              clear S
              go_wp2_with fail
              refine (fby_cases _ _).mono ?_
              rintro e w4 ⟨rfl, rfl⟩
              rw [hf]
              go_wp2
              go_roundg (el.length - (q + 1))
              case measure => have := unhide HG3; omega
              case rel => exact ⟨q + 1, by omega, rfl, by go_num, int_eq (by have := unhide HS; omega), (unhide HB3).trans ((Below.refl _ _).alloc (unhide HB3).size _)⟩
            · by_cases hlast : q + 1 = el.length
              · have dl : ((q : Int) == (el.length : Int) - 1) = true := by rw [beq_iff_eq]; omega
                have S : innTo true el (q + 1) = innTo true el q := by
                  rw [innTo, innB, List.getElem?_eq_getElem hlt3]
                  simp [hf, hlast]
                have HS := hide S
                clear S hlast
                go_wp2_with fail
                refine (fby_cases _ _).mono ?_
                rintro e w4 ⟨rfl, rfl⟩
                rw [hf]
                go_wp2
                go_roundg (el.length - (q + 1))
                case measure => have := unhide HG3; omega
                case rel => exact ⟨q + 1, by omega, rfl, by go_num, int_eq (by have := unhide HS; omega), (unhide HB3).trans ((Below.refl _ _).alloc (unhide HB3).size _)⟩
              · have dl : ((q : Int) == (el.length : Int) - 1) = false := by rw [beq_eq_false_iff_ne]; omega
                have S : innTo true el (q + 1) = innTo true el q + 1 := by
                  rw [innTo, innB, List.getElem?_eq_getElem hlt3]
                  simp [hf, hlast]
                have HS := hide S
                clear S hlast
                go_wp2_with fail
                refine (fby_cases _ _).mono ?_
                rintro e w4 ⟨rfl, rfl⟩
                rw [hf]
                go_wp2
                go_roundg (el.length - (q + 1))
                case measure => have := unhide HG3; omega
                case rel => exact ⟨q + 1, by omega, rfl, by go_num, int_eq (by have := unhide HS; omega), (unhide HB3).trans ((Below.refl _ _).alloc (unhide HB3).size _)⟩
          · have e : q = el.length := by omega
            subst e
            have HE : Hid (n0 + innTo true el el.length = innerTo true cds (m + 1)) := (unhide HSM).symm
            go_wp2
            go_roundg (cds.length - (m + 1))
            case measure => have := unhide HGM; omega
            case rel => exact ⟨m + 1, by omega, rfl, by go_num, int_eq (by have := unhide HE; omega), (unhide HBM).trans ((unhide HB3).mono (unhide HBM).size)⟩
      · have e : m = cds.length := by omega
        subst e
        go_wp2
        go_ret
        exact ⟨rfl, unhide BV⟩
  · have e : decide (s.size = 0) = false := by simpa using g
    rw [e]
    have d4 := empty_no s g
    have d4' := isEmpty_no s g
    clear g e
    go_enter Try.func35, Try.ntmps35
    go_wp2_with fail
    refine (l2Codes_ok ⟨lhs, code, s, args⟩ _ _ _ _ ((unhide H2).stays RItem_kept (unhide B0)) ((unhide H3).stays RItems_kept (unhide B0))).mono ?_
    rintro e w1 ⟨vc, rfl, hVC, hb1⟩
    have HBX1 := hide (box_cell (B := 0) (show Below (w.heap.size + 1) _ w1 by simpa using hb1) 2)
    have HBB1 : Hid (Below (w.heap.size + 1) (w.alloc (.cells #[a1, .slice b2 code.length c2, .string s, .slice b3 args.length c3] 51)) w1) := by
      show Below (w.heap.size + 1) _ w1
      simpa using hb1
    have B1 : Hid (Below w.heap.size w w1) := (unhide B0).trans (hb1.mono (unhide B0).size)
    generalize codesOf ⟨lhs, code, s, args⟩ = cds at *
    obtain ⟨bv, cv, rfl⟩ := hVC.shape
    obtain ⟨_, _, hvv, _, hvn, hvx⟩ := hVC
    simp only [Value.slice.injEq] at hvv
    obtain ⟨rfl, _, rfl⟩ := hvv
    unfold Len at hvn
    have HVX := hide hvx
    clear hvx hb1
    go_wp2
    go_loopg [3, 11] cds.length (fun g n i wr => ∃ (m : Nat), m ≤ cds.length ∧ g = cds.length - m ∧ i = .int .i64 m ∧ n = .int .i64 (innerTo false cds m) ∧ Below w1.heap.size w1 wr)
    case atStart => exact ⟨0, Nat.zero_le _, by omega, rfl, rfl, Below.refl _ _⟩
    case round =>
      obtain ⟨m, hm, hgm, rfl, rfl, hblm⟩ := hrel
      rename World => wv
      have HGM := hide hgm
      have HBM := hide hblm
      have BV : Hid (Below w.heap.size w wv) := (unhide B1).trans (hblm.mono (unhide B1).size)
      clear hgm hblm
      by_cases hltm : m < cds.length
      · obtain ⟨ba, oa, csa, hbo, _, hba, hcsa, hca, hRa⟩ := unhide HVX m hltm
        subst hbo
        have hca : ∀ j (hj : j < csa.length), wv.cell? ⟨ba, oa + m * 1 + j, none⟩ = some csa[j] := fun j hj => by rw [(unhide HBM).cell (p := ⟨ba, _, none⟩) hba]; exact hca j hj
        have hRa := RItems_kept.stays _ _ _ _ _ (unhide HBM) hRa
        obtain ⟨va, rfl, hE⟩ := hRa
        obtain ⟨be, ce, rfl⟩ := hE.shape
        have r0 := hca 0 (by simp)
        simp only [Nat.mul_one, Nat.add_zero, List.getElem_cons_zero, List.getElem_cons_succ] at r0
        obtain ⟨_, _, hve, _, hne, hex⟩ := hE
        simp only [Value.slice.injEq] at hve
        obtain ⟨rfl, _, rfl⟩ := hve
        unfold Len at hne
        have HEX := hide hex
        have SM : innerTo false cds (m + 1) = innerTo false cds m + innTo false cds[m] cds[m].length := by
          rw [innerTo, List.getElem?_eq_getElem hltm]
        have hbnd := innerTo_le false cds m
        have hbn2 := lensTo_le cds 3000 hcl m
        have hle := hcl cds[m] (List.getElem_mem hltm)
        have HSM := hide SM
        clear SM hex hca hcsa
        generalize cds[m] = el at *
        generalize innerTo false cds m = n0 at *
        have hn0 : n0 ≤ 3000 * cds.length := by
          have : m * 3000 ≤ cds.length * 3000 := Nat.mul_le_mul_right _ hm
          omega
        clear hbnd hbn2
        go_wp2
        go_loopg [3, 17] el.length (fun g n i wr => ∃ (q : Nat), q ≤ el.length ∧ g = el.length - q ∧ i = .int .i64 q ∧ n = .int .i64 ((n0 + innTo false el q : Nat) : Int) ∧ Below wv.heap.size wv wr)
        case atStart => exact ⟨0, Nat.zero_le _, by omega, rfl, rfl, Below.refl _ _⟩
        case round =>
          obtain ⟨q, hq, hg3, rfl, rfl, hbl3⟩ := hrel
          have HG3 := hide hg3
          have HB3 := hide hbl3
          have hib := innTo_le false el q
          clear hg3 hbl3
          by_cases hlt3 : q < el.length
          · obtain ⟨b, o, cs, hbo, _, hb, hcs, hc, hR⟩ := unhide HEX q hlt3
            subst hbo
            have hc : ∀ j (hj : j < cs.length), wr.cell? ⟨b, o + q * 3 + j, none⟩ = some cs[j] := fun j hj => by rw [(unhide HB3).cell (p := ⟨b, _, none⟩) hb]; exact hc j hj
            obtain ⟨rfl, hsn, ho, hvl⟩ := hR
            have e0 := hc 0 (by simp)
            have e1 := hc 1 (by simp)
            have e2 := hc 2 (by simp)
            simp only [Nat.mul_one, Nat.add_zero, List.getElem_cons_zero, List.getElem_cons_succ] at e0 e1 e2
            have hw1v : w1.heap.size ≤ wr.heap.size := Nat.le_trans (unhide HBM).size (unhide HB3).size
            have hww1 : w.heap.size + 1 ≤ w1.heap.size := by have := (unhide HBB1).size; simpa using this
            have k2 : wr.cell? ⟨w.heap.size, 2, none⟩ = some (.string s) := by
              rw [(unhide HB3).cell (p := ⟨w.heap.size, 2, none⟩) (show w.heap.size < wv.heap.size by have := (unhide HBM).size; omega), (unhide HBM).cell (p := ⟨w.heap.size, 2, none⟩) (show w.heap.size < w1.heap.size by omega)]
              exact (unhide HBX1).trans rfl
            have hwr : w.heap.size < wr.heap.size := by omega
            clear hc hcs hsn ho hvl
            cases hf : fbyB el[q].op
            · have S : innTo false el (q + 1) = innTo false el q := by
                rw [innTo, innB, List.getElem?_eq_getElem hlt3]
                simp [hf]
              have HS := hide S
              clear S
              go_wp2_with fail
              refine (fby_cases _ _).mono ?_
              rintro e w4 ⟨rfl, rfl⟩
              rw [hf]
              go_wp2
              go_roundg (el.length - (q + 1))
              case measure => have := unhide HG3; omega
              case rel => exact ⟨q + 1, by omega, rfl, by go_num, int_eq (by have := unhide HS; omega), (unhide HB3).trans ((Below.refl _ _).alloc (unhide HB3).size _)⟩
            · have S : innTo false el (q + 1) = innTo false el q + 1 := by
                rw [innTo, innB, List.getElem?_eq_getElem hlt3]
                simp [hf]
              have HS := hide S
              clear S
              go_wp2_with fail
              refine (fby_cases _ _).mono ?_
              rintro e w4 ⟨rfl, rfl⟩
              rw [hf]
              go_wp2
              go_roundg (el.length - (q + 1))
              case measure => have := unhide HG3; omega
              case rel => exact ⟨q + 1, by omega, rfl, by go_num, int_eq (by have := unhide HS; omega), (unhide HB3).trans ((Below.refl _ _).alloc (unhide HB3).size _)⟩
          · have e : q = el.length := by omega
            subst e
            have HE : Hid (n0 + innTo false el el.length = innerTo false cds (m + 1)) := (unhide HSM).symm
            go_wp2
            go_roundg (cds.length - (m + 1))
            case measure => have := unhide HGM; omega
            case rel => exact ⟨m + 1, by omega, rfl, by go_num, int_eq (by have := unhide HE; omega), (unhide HBM).trans ((unhide HB3).mono (unhide HBM).size)⟩
      · have e : m = cds.length := by omega
        subst e
        go_wp2
        go_ret
        exact ⟨rfl, unhide BV⟩

end Go.Proofs.Ytnfgcklppaknbaa
