import Derived.Test.YtnfgcklppaknbaaWI1
namespace Go.Proofs.Ytnfgcklppaknbaa
open Go.RowKit
set_option linter.unusedSimpArgs false
set_option linter.unusedVariables false

def endB (x : DEq) : Bool := decide (x.call.size = 0) && lastFby x.code

set_option maxHeartbeats 2000000 in
theorem endsInFby_ok (x : DEq) (b o : Nat) (w : World) (h : At 4 REq w b o x) (hne : x.call.size = 0 → 0 < x.code.length) :
    Calls Try.prog 63 #[.pointer (some ⟨b, o, none⟩)] w (Ans (.bool (endB x)) w) := by
  obtain ⟨lhs, code, s, args⟩ := x
  obtain ⟨hbl, cs, hl, hc, a1, a2, a3, rfl, hs, h1, h2, h3⟩ := h
  simp only [endB] at *
  obtain ⟨b2, c2, rfl⟩ := h2.shape
  have k1 := hc 1 (by simp)
  have k2 := hc 2 (by simp)
  simp only [List.getElem_cons_zero, List.getElem_cons_succ] at k1 k2
  have H2 := hide h2
  have n2 := h2.len'
  clear h1 h2 h3 hc hs hl
  by_cases g : s.size = 0
  · rw [decide_eq_true g, Bool.true_and]
    have hn0 := hne g
    obtain ⟨bb, oo, cs, hbo, _, hb, hcs, hcc, hR⟩ := (show ∃ b' o' cs', b2 = some ⟨b', o', none⟩ ∧ 0 ≤ b' ∧ b' < w.heap.size ∧ cs'.length = 3 ∧ (∀ j (hj : j < cs'.length), w.cell? ⟨b', o' + (code.length - 1) * 3 + j, none⟩ = some cs'[j]) ∧ RItem 0 w cs' code[code.length - 1] from by
      obtain ⟨a, cap, hv, _, _, hx⟩ := unhide H2
      simp only [Value.slice.injEq] at hv
      obtain ⟨rfl, _, _⟩ := hv
      exact hx (code.length - 1) (by omega))
    subst hbo
    obtain ⟨rfl, hsn, ho, hvl⟩ := hR
    have hcc : ∀ j (hj : j < 3), w.cell? ⟨bb, oo + (code.length - 1) * 3 + j, none⟩ = some _ := fun j hj => by rw [(Below.refl w.heap.size w).cell (p := ⟨bb, _, none⟩) hb]; exact hcc j hj
    have e0 := hcc 0 (by simp)
    have e1 := hcc 1 (by simp)
    have e2 := hcc 2 (by simp)
    simp only [Nat.mul_one, Nat.add_zero, List.getElem_cons_zero, List.getElem_cons_succ] at e0 e1 e2
    have hlf : lastFby code = fbyB code[code.length - 1].op := by
      unfold lastFby
      rw [List.getElem?_eq_getElem (by omega)]
    rw [hlf]
    have d4 := empty_yes s g
    have d4' := isEmpty_yes s g
    obtain ⟨li, hli⟩ : ∃ li, code.length = li + 1 := ⟨code.length - 1, by omega⟩
    have hii : code.length - 1 = li := by omega
    generalize code[code.length - 1] = it at *
    rw [hii] at e0 e1 e2
    rw [hli] at k1
    have hli2 : li + 1 ≤ 140737488355328 := by omega
    have hw1 : IntKind.i64.wrap (li : Int) = (li : Int) := by rw [IntKind.wrap_i64]; omega
    have hw2 : IntKind.i64.wrap ((li : Int) + 1 - 1) = (li : Int) := by rw [IntKind.wrap_i64]; omega
    have hw3 : (li : Int) < (li : Int) + 1 := by omega
    have hw4 : (0 : Int) ≤ (li : Int) := by omega
    have hw5 : li < li + 1 := by omega
    have HC : Hid (Calls Try.prog 62 #[.agg #[.int .i64 it.op, .int .i64 it.val, .string it.name]] w.drew fun e w' => e = .returned (.bool (fbyB it.op)) ∧ Hid (Below w.heap.size w w') ∧ w'.cell? ⟨b, o + 1, none⟩ = some (.slice (some ⟨bb, oo, none⟩) (li + 1) c2) ∧ w'.cell? ⟨b, o + 2, none⟩ = some (.string s) ∧ w'.cell? ⟨bb, oo + li * 3, none⟩ = some (.int .i64 it.op) ∧ w'.cell? ⟨bb, oo + li * 3 + 1, none⟩ = some (.int .i64 it.val) ∧ w'.cell? ⟨bb, oo + li * 3 + 2, none⟩ = some (.string it.name)) := by
      refine (isFby_ok it.op it.val it.name w.drew).mono ?_
      rintro e w' ⟨rfl, h4⟩
      have h5 : Below w.heap.size w w' := ((Below.refl _ w).drew).trans h4
      have hbv : b < w.heap.size := Nat.lt_of_lt_of_le hbl (Below.refl w.heap.size w).size
      have hbbv : bb < w.heap.size := Nat.lt_of_lt_of_le hb (Below.refl w.heap.size w).size
      exact ⟨rfl, (Below.refl w.heap.size w).trans (h5.mono (Below.refl w.heap.size w).size), by rw [h5.cell (p := ⟨b, _, none⟩) hbv]; exact k1, by rw [h5.cell (p := ⟨b, _, none⟩) hbv]; exact k2, by rw [h5.cell (p := ⟨bb, _, none⟩) hbbv]; exact e0, by rw [h5.cell (p := ⟨bb, _, none⟩) hbbv]; exact e1, by rw [h5.cell (p := ⟨bb, _, none⟩) hbbv]; exact e2⟩
    clear H2 hcc hcs hsn ho hvl hlf g d4' hne n2 hn0 hli hii
    go_enter Try.func63, Try.ntmps63
    go_wp2_with fail
    go_region_held3 (fun w' => w'.cell? ⟨b, o + 1, none⟩ = some (.slice (some ⟨bb, oo, none⟩) (li + 1) c2) ∧ w'.cell? ⟨b, o + 2, none⟩ = some (.string s) ∧ w'.cell? ⟨bb, oo + li * 3, none⟩ = some (.int .i64 it.op) ∧ w'.cell? ⟨bb, oo + li * 3 + 1, none⟩ = some (.int .i64 it.val) ∧ w'.cell? ⟨bb, oo + li * 3 + 2, none⟩ = some (.string it.name)) (go_keep) (first | (go_at_call 62; refine (unhide HC).mono ?_; rintro e w6 ⟨rfl, HB6, q1, q2, q3, q4, q5⟩))
    all_goals
      go_wp2
      go_ret
      exact ⟨rfl, unhide HB6⟩
  · rw [decide_eq_false g, Bool.false_and]
    have d4 := empty_no s g
    have d4' := isEmpty_no s g
    have HBn : Hid (∀ n, Below w.heap.size w (w.drewN n)) := fun n => ⟨rfl, rfl, rfl, Nat.le_refl _, fun _ _ => rfl⟩
    clear H2 hne g
    go_enter Try.func63, Try.ntmps63
    go_wp2_with fail
    go_quiet ((fail))
    go_wp2
    go_ret
    exact ⟨rfl, unhide HBn _⟩

set_option maxHeartbeats 2000000 in
theorem innerFbys_ok (x : DEq) (b o : Nat) (w : World) (h : At 4 REq w b o x) (hcl : ∀ c, c ∈ codesOf x → c.length ≤ 3000) (hcn : (codesOf x).length ≤ 500) (hne : x.call.size = 0 → 0 < x.code.length) :
    Calls Try.prog 39 #[.pointer (some ⟨b, o, none⟩)] w (Ans (.int .i64 (innerN x)) w) := by
  have HA := hide h
  have EF := hide (fun h => innerN_full x h)
  have EC := hide (fun h h' => innerN_code x h h')
  obtain ⟨lhs, code, s, args⟩ := x
  obtain ⟨hbl, cs, hl, hc, a1, a2, a3, rfl, hs, h1, h2, h3⟩ := h
  simp only at *
  obtain ⟨b2, c2, rfl⟩ := h2.shape
  have k1 := hc 1 (by simp)
  have k2 := hc 2 (by simp)
  simp only [List.getElem_cons_zero, List.getElem_cons_succ] at k1 k2
  have K1 := hide k1
  have K2 := hide k2
  have H2 := hide h2
  have n2 := h2.len'
  clear h1 h2 h3 hc hs hl k1 k2
  go_enter Try.func39, Try.ntmps39
  go_wp2_with fail
  refine (expressions_ok ⟨lhs, code, s, args⟩ b o w (unhide HA)).mono ?_
  rintro e w1 ⟨vc, rfl, hVC, hb1⟩
  have B1 : Hid (Below w.heap.size w w1) := hb1
  generalize codesOf ⟨lhs, code, s, args⟩ = cds at *
  obtain ⟨bv, cv, rfl⟩ := hVC.shape
  obtain ⟨_, _, hvv, _, hvn, hvx⟩ := hVC
  simp only [Value.slice.injEq] at hvv
  obtain ⟨rfl, _, rfl⟩ := hvv
  unfold Len at hvn
  have HVX := hide hvx
  clear hvx hb1
  go_wp2
  go_loopg [3, 11] cds.length (fun g n i wr => ∃ (m : Nat), m ≤ cds.length ∧ g = cds.length - m ∧ i = .int .i64 m ∧ n = .int .i64 (innerTo false cds m) ∧ Below w1.heap.size w1 wr)
  case atStart => exact ⟨0, Nat.zero_le _, by omega, rfl, rfl, Below.refl _ _⟩
  case round =>
    obtain ⟨m, hm, hgm, rfl, rfl, hblm⟩ := hrel
    rename World => wv
    have HGM := hide hgm
    have HBM := hide hblm
    have BV : Hid (Below w.heap.size w wv) := (unhide B1).trans (hblm.mono (unhide B1).size)
    clear hgm hblm
    by_cases hltm : m < cds.length
    · obtain ⟨ba, oa, csa, hbo, _, hba, hcsa, hca, hRa⟩ := unhide HVX m hltm
      subst hbo
      have hca : ∀ j (hj : j < csa.length), wv.cell? ⟨ba, oa + m * 1 + j, none⟩ = some csa[j] := fun j hj => by rw [(unhide HBM).cell (p := ⟨ba, _, none⟩) hba]; exact hca j hj
      have hRa := RItems_kept.stays _ _ _ _ _ (unhide HBM) hRa
      obtain ⟨va, rfl, hE⟩ := hRa
      obtain ⟨be, ce, rfl⟩ := hE.shape
      have r0 := hca 0 (by simp)
      simp only [Nat.mul_one, Nat.add_zero, List.getElem_cons_zero, List.getElem_cons_succ] at r0
      obtain ⟨_, _, hve, _, hne2, hex⟩ := hE
      simp only [Value.slice.injEq] at hve
      obtain ⟨rfl, _, rfl⟩ := hve
      unfold Len at hne2
      have HEX := hide hex
      have SM : innerTo false cds (m + 1) = innerTo false cds m + innTo false cds[m] cds[m].length := by
        rw [innerTo, List.getElem?_eq_getElem hltm]
      have hbnd := innerTo_le false cds m
      have hbn2 := lensTo_le cds 3000 hcl m
      have hle := hcl cds[m] (List.getElem_mem hltm)
      have HSM := hide SM
      clear SM hex hca hcsa
      generalize cds[m] = el at *
      generalize innerTo false cds m = n0 at *
      have hn0 : n0 ≤ 3000 * cds.length := by
        have : m * 3000 ≤ cds.length * 3000 := Nat.mul_le_mul_right _ hm
        omega
      clear hbnd hbn2
      go_wp2
      go_loopg [3, 17] el.length (fun g n i wr => ∃ (q : Nat), q ≤ el.length ∧ g = el.length - q ∧ i = .int .i64 q ∧ n = .int .i64 ((n0 + innTo false el q : Nat) : Int) ∧ Below wv.heap.size wv wr)
      case atStart => exact ⟨0, Nat.zero_le _, by omega, rfl, rfl, Below.refl _ _⟩
      case round =>
        obtain ⟨q, hq, hg3, rfl, rfl, hbl3⟩ := hrel
        have HG3 := hide hg3
        have HB3 := hide hbl3
        have hib := innTo_le false el q
        clear hg3 hbl3
        by_cases hlt3 : q < el.length
        · obtain ⟨b, o, cs, hbo, _, hb, hcs, hc, hR⟩ := unhide HEX q hlt3
          subst hbo
          have hc : ∀ j (hj : j < cs.length), wr.cell? ⟨b, o + q * 3 + j, none⟩ = some cs[j] := fun j hj => by rw [(unhide HB3).cell (p := ⟨b, _, none⟩) hb]; exact hc j hj
          obtain ⟨rfl, hsn, ho, hvl⟩ := hR
          have e0 := hc 0 (by simp)
          have e1 := hc 1 (by simp)
          have e2 := hc 2 (by simp)
          simp only [Nat.mul_one, Nat.add_zero, List.getElem_cons_zero, List.getElem_cons_succ] at e0 e1 e2
          clear hc hcs hsn ho hvl
          have B4 := hide ((Below.refl wr.heap.size wr).alloc (Nat.le_refl _) (.cells #[.int .i64 el[q].op, .int .i64 el[q].val, .string el[q].name] 71))
          have S : innTo false el (q + 1) = innTo false el q + (if fbyB el[q].op then 1 else 0) := by
            rw [innTo, innB, List.getElem?_eq_getElem hlt3]
            simp
          cases hf : fbyB el[q].op
          · rw [hf] at S
            have HS := hide S
            clear S
            go_wp2_with fail
            refine (isFby_ok _ _ _ _).mono ?_
            rintro e w4 ⟨rfl, hb4⟩
            have B5 : Hid (Below wr.heap.size wr w4) := (unhide B4).trans (hb4.mono (unhide B4).size)
            rw [hf]
            clear hb4
            go_wp2
            go_roundg (el.length - (q + 1))
            case measure => have := unhide HG3; omega
            case rel => exact ⟨q + 1, by omega, rfl, by go_num, int_eq (by have h := unhide HS; simp at h; omega), (unhide HB3).trans ((unhide B5).mono (unhide HB3).size)⟩
          · rw [hf] at S
            have HS := hide S
            clear S
            go_wp2_with fail
            refine (isFby_ok _ _ _ _).mono ?_
            rintro e w4 ⟨rfl, hb4⟩
            have B5 : Hid (Below wr.heap.size wr w4) := (unhide B4).trans (hb4.mono (unhide B4).size)
            rw [hf]
            clear hb4
            go_wp2
            go_roundg (el.length - (q + 1))
            case measure => have := unhide HG3; omega
            case rel => exact ⟨q + 1, by omega, rfl, by go_num, int_eq (by have h := unhide HS; simp at h; omega), (unhide HB3).trans ((unhide B5).mono (unhide HB3).size)⟩
        · have e : q = el.length := by omega
          subst e
          have HE : Hid (n0 + innTo false el el.length = innerTo false cds (m + 1)) := (unhide HSM).symm
          go_wp2
          go_roundg (cds.length - (m + 1))
          case measure => have := unhide HGM; omega
          case rel => exact ⟨m + 1, by omega, rfl, by go_num, int_eq (by have := unhide HE; omega), (unhide HBM).trans ((unhide HB3).mono (unhide HBM).size)⟩
    · have e : m = cds.length := by omega
      subst e
      have k1 : wv.cell? ⟨b, o + 1, none⟩ = some (.slice b2 code.length c2) := by rw [(unhide BV).cell (p := ⟨b, o + 1, none⟩) hbl]; exact unhide K1
      have k2 : wv.cell? ⟨b, o + 2, none⟩ = some (.string s) := by rw [(unhide BV).cell (p := ⟨b, o + 2, none⟩) hbl]; exact unhide K2
      clear K1 K2
      have hbnd := innerTo_le false cds cds.length
      have hbn2 := lensTo_le cds 3000 hcl cds.length
      have hbd : innerTo false cds cds.length ≤ 1500000 := by
        have : cds.length * 3000 ≤ 500 * 3000 := Nat.mul_le_mul_right _ hcn
        omega
      clear hbnd hbn2 hcl hcn HVX HGM HBM
      have HEF := hide (endsInFby_ok ⟨lhs, code, s, args⟩ b o wv ((unhide HA).stays REq_kept (unhide BV)) hne)
      have HIN : Hid ((if endB ⟨lhs, code, s, args⟩ then 1 else 0) + innerN ⟨lhs, code, s, args⟩ = innerTo false cds cds.length) := by
        refine hide ?_
        unfold endB
        by_cases g : s.size = 0
        · have E := unhide EC g (hne g)
          rw [E]
          simp only [g, decide_true, Bool.true_and]
          omega
        · have E := unhide EF g
          rw [E]
          simp [g]
      clear k1 k2 EC EF HA H2 hne
      generalize innerN ⟨lhs, code, s, args⟩ = inn at *
      generalize endB ⟨lhs, code, s, args⟩ = eb at *
      generalize innerTo false cds cds.length = tot at *
      have HB0 := hide (unhide BV)
      cases eb
      · go_wp2_with fail
        refine (unhide HEF).mono ?_
        rintro e w6 ⟨rfl, hb6⟩
        have HB6 := hide ((unhide BV).trans (hb6.mono (unhide BV).size))
        clear hb6
        go_wp2
        go_ret
        exact ⟨ret_int (by have h := unhide HIN; simp at h; omega), unhide HB6⟩
      · go_wp2_with fail
        refine (unhide HEF).mono ?_
        rintro e w6 ⟨rfl, hb6⟩
        have HB6 := hide ((unhide BV).trans (hb6.mono (unhide BV).size))
        clear hb6
        go_wp2
        go_ret
        exact ⟨ret_int (by have h := unhide HIN; simp at h; omega), unhide HB6⟩

end Go.Proofs.Ytnfgcklppaknbaa
