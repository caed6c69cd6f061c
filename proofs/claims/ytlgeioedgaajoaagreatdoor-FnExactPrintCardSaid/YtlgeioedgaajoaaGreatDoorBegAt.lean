import Derived.Test.YtlgeioedgaajoaaGreatDoorPure
namespace Go.Proofs.YtlgeioedgaajoaaGreatDoor
open Go.RowKit
set_option linter.unusedSimpArgs false
set_option linter.unusedVariables false

set_option maxHeartbeats 400000 in
theorem l1Begin_at (ys : List DItem) (n0 : Nat) (hn0 : n0 ≤ ys.length) (v : Value) (w : World) (hv : SlAt 3 32 RItem 0 w v ys) :
    Calls Tryz.prog 26 #[v, .int .i64 n0] w fun e w' => e = .returned (.int .i64 (bgI (ys.take n0))) ∧ w' = w := by
  obtain ⟨a, cap, rfl, _, hn, hx⟩ := hv
  unfold Len at hn
  have hxl : (ys.take n0).length = n0 := by rw [List.length_take]; omega
  obtain ⟨xs, hxs⟩ : ∃ xs, xs = ys.take n0 := ⟨_, rfl⟩
  rw [← hxs] at hxl ⊢
  have HX : Hid (∀ i (h : i < xs.length), ∃ b o cs, a = some ⟨b, o, none⟩ ∧ 0 ≤ b ∧ b < w.heap.size ∧ cs.length = 3 ∧ (∀ j (hj : j < cs.length), w.cell? ⟨b, o + i * 3 + j, none⟩ = some cs[j]) ∧ RItem 0 w cs xs[i]) := by
    intro i hi
    obtain ⟨b, o, cs, h1, h2, h3, h4, h5, h6⟩ := hx i (by omega)
    refine ⟨b, o, cs, h1, h2, h3, h4, h5, ?_⟩
    have : xs[i] = ys[i]'(by omega) := by subst hxs; simp
    rw [this]
    exact h6
  clear hx
  subst hxl
  clear hxs
  go_enter Tryz.func26, Tryz.ntmps26
  go_wp2
  go_loopg [5, 6] (xs.length) (fun g l i wr => ∃ (m n : Nat), m ≤ xs.length ∧ g = m ∧ l = .int .i64 m ∧ i = .int .i64 n ∧ n + 3 * m ≤ 3 * xs.length + 1 ∧ bk xs.reverse 1 = bk (xs.take m).reverse n ∧ wr = w)
  case atStart => exact ⟨xs.length, 1, Nat.le_refl _, rfl, rfl, rfl, by omega, by rw [List.take_length], rfl⟩
  case round =>
    obtain ⟨m, n, hm, hg, rfl, rfl, hn3, hbk, rfl⟩ := hrel
    have HG := hide hg
    have HB := hide hbk
    clear hg hbk
    match n with
    | 0 =>
      have F : bgI xs = m := by
        unfold bgI
        rw [unhide HB, bk_zero]
        simp
        omega
      have HF := hide F
      clear F
      go_wp2
      go_ret
      exact ⟨ret_int (unhide HF).symm, rfl⟩
    | n + 1 =>
      match m with
      | 0 =>
        have F : bgI xs = -1 := by
          unfold bgI
          rw [unhide HB]
          rfl
        have HF := hide F
        clear F
        go_wp2
        go_ret
        exact ⟨ret_int (unhide HF).symm, rfl⟩
      | m + 1 =>
        have hlt : m < xs.length := by omega
        obtain ⟨b, o, cs, rfl, _, hb, hcs, hc, hR⟩ := unhide HX m hlt
        obtain ⟨rfl, hsn, ho, hvl⟩ := hR
        have c0 := hc 0 (by simp)
        simp only [Nat.mul_one, Nat.add_zero, List.getElem_cons_zero, List.getElem_cons_succ] at c0
        have hbd := arI_bd xs[m].op
        have HAR := hide (fun w => l1Arity_ok xs[m].op w ho)
        have hd := unhide HB
        rw [take_rev xs m hlt] at hd
        simp only [bk] at hd
        by_cases hneg : arI xs[m].op < 0
        · have F : bgI xs = -1 := by
            unfold bgI
            rw [hd, if_pos hneg]
          have HF := hide F
          clear F hd hc hcs ho hvl hsn
          generalize xs[m].op = op at *
          generalize arI op = ar at *
          go_wp2_with fail
          refine (unhide HAR _).mono ?_
          rintro e w1 ⟨rfl, rfl⟩
          go_wp2
          go_ret
          exact ⟨ret_int (unhide HF).symm, rfl⟩
        · rw [if_neg hneg] at hd
          have HF := hide hd
          clear hd hc hcs ho hvl hsn
          generalize xs[m].op = op at *
          generalize arI op = ar at *
          go_wp2_with fail
          refine (unhide HAR _).mono ?_
          rintro e w1 ⟨rfl, rfl⟩
          go_wp2_with fail
          refine (unhide HAR _).mono ?_
          rintro e w1 ⟨rfl, rfl⟩
          go_wp2
          go_roundg m
          case measure => have := unhide HG; omega
          case rel => exact ⟨m, n + ar.toNat, by omega, rfl, by go_num, int_eq (by omega), by omega, unhide HF, rfl⟩

end Go.Proofs.YtlgeioedgaajoaaGreatDoor
