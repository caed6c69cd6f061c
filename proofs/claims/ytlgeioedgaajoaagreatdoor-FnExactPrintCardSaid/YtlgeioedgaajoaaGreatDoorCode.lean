import Derived.Test.YtlgeioedgaajoaaGreatDoorItemsB
namespace Go.Proofs.YtlgeioedgaajoaaGreatDoor
open Go.RowKit
set_option linter.unusedSimpArgs false
set_option linter.unusedVariables false

def wk : List DItem → Int → Bool
  | [], r => r == 1
  | t :: ts, r => if r < ocI t.op then false else wk ts (r + (1 - ocI t.op))

/-- From the end: how many items are left when need operands are found; none if they aren't all there. -/
def bk : List DItem → Nat → Option Nat
  | ts, 0 => some ts.length
  | [], _ + 1 => none
  | t :: ts, n + 1 => if arI t.op < 0 then none else bk ts (n + (arI t.op).toNat)
def bgI (code : List DItem) : Int := match bk code.reverse 1 with
  | none => -1
  | some m => m

set_option maxHeartbeats 400000 in
theorem worksOut_ok (xs : List DItem) (v : Value) (w : World) (hv : SlAt 3 32 RItem 0 w v xs) :
    Calls Tryz.prog 98 #[v] w (Ans (.bool (wk xs 0)) w) := by
  obtain ⟨a, cap, rfl, _, hn, hx⟩ := hv
  unfold Len at hn
  have HX := hide hx
  clear hx
  go_enter Tryz.func98, Tryz.ntmps98
  go_wp2
  go_loopg [3, 9] xs.length (fun g l i wr => ∃ (k : Nat) (r : Int), k ≤ xs.length ∧ g = xs.length - k ∧ i = .int .i64 k ∧ l = .int .i64 r ∧ 0 ≤ r ∧ r ≤ k ∧ wk xs 0 = wk (xs.drop k) r ∧ Below w.heap.size w wr)
  case atStart => exact ⟨0, 0, Nat.zero_le _, by omega, rfl, rfl, by omega, by omega, by simp, Below.refl _ _⟩
  case round =>
    obtain ⟨k, r, hk, hg, rfl, rfl, hr0, hr1, hwk, hbl⟩ := hrel
    have HG := hide hg
    have HW := hide hwk
    clear hg hwk
    by_cases hlt : k < xs.length
    · obtain ⟨b, o, cs, rfl, _, hb, hcs, hc, hR⟩ := unhide HX k hlt
      have hc : ∀ j (hj : j < cs.length), wr.cell? ⟨b, o + k * 3 + j, none⟩ = some cs[j] := fun j hj => by rw [hbl.cell (p := ⟨b, _, none⟩) hb]; exact hc j hj
      obtain ⟨rfl, hsn, ho, hvl⟩ := hR
      have c0 := hc 0 (by simp)
      have c1 := hc 1 (by simp)
      have c2 := hc 2 (by simp)
      simp only [Nat.mul_one, Nat.add_zero, List.getElem_cons_zero, List.getElem_cons_succ] at c0 c1 c2
      have hd : xs.drop k = xs[k] :: xs.drop (k + 1) := List.drop_eq_getElem_cons hlt
      have hbd := ocI_bd xs[k].op
      have HOC := hide (fun w => operandCount_ok xs[k].op w)
      by_cases hneg : r < ocI xs[k].op
      · have F : wk xs 0 = false := by rw [unhide HW, hd]; simp only [wk]; rw [if_pos hneg]
        have HF := hide F
        clear F hd hc hcs ho hvl hsn
        generalize xs[k].op = op at *
        generalize ocI op = oc at *
        go_wp2_with fail
        refine (unhide HOC _).mono ?_
        rintro e w1 ⟨rfl, rfl⟩
        go_wp2
        go_ret
        exact ⟨ret_bool (unhide HF).symm, hbl.trans ((Below.refl _ _).alloc hbl.size _)⟩
      · have F : wk xs 0 = wk (xs.drop (k + 1)) (r + (1 - ocI xs[k].op)) := by
          rw [unhide HW, hd]
          simp only [wk]
          rw [if_neg hneg]
        have HF := hide F
        clear F hd hc hcs ho hvl hsn
        generalize xs[k].op = op at *
        generalize ocI op = oc at *
        go_wp2_with fail
        refine (unhide HOC _).mono ?_
        rintro e w1 ⟨rfl, rfl⟩
        go_wp2
        go_roundg (xs.length - (k + 1))
        case measure => have := unhide HG; omega
        case rel => exact ⟨k + 1, r + (1 - oc), by omega, rfl, by go_num, rfl, by omega, by omega, unhide HF, hbl.trans ((Below.refl _ _).alloc hbl.size _)⟩
    · have e : k = xs.length := by omega
      have F : wk xs 0 = (r == 1) := by rw [unhide HW, e, List.drop_length]; rfl
      have HF := hide F
      clear F
      go_wp2
      go_ret
      exact ⟨ret_bool (unhide HF).symm, hbl⟩

theorem int_eq {a b : Int} (h : a = b) : Value.int .i64 a = .int .i64 b := by rw [h]
theorem bk_zero (ts : List DItem) : bk ts 0 = some ts.length := by cases ts <;> rfl
theorem take_rev (xs : List DItem) (a : Nat) (h : a < xs.length) : (xs.take (a + 1)).reverse = xs[a] :: (xs.take a).reverse := by
  rw [List.take_succ_eq_append_getElem h, List.reverse_append]
  rfl

set_option maxHeartbeats 400000 in
theorem l1Begin_ok (xs : List DItem) (v : Value) (w : World) (hv : SlAt 3 32 RItem 0 w v xs) :
    Calls Tryz.prog 26 #[v, .int .i64 xs.length] w fun e w' => e = .returned (.int .i64 (bgI xs)) ∧ w' = w := by
  obtain ⟨a, cap, rfl, _, hn, hx⟩ := hv
  unfold Len at hn
  have HX := hide hx
  clear hx
  go_enter Tryz.func26, Tryz.ntmps26
  go_wp2
  go_loopg [5, 6] (xs.length) (fun g l i wr => ∃ (m n : Nat), m ≤ xs.length ∧ g = m ∧ l = .int .i64 m ∧ i = .int .i64 n ∧ n + 3 * m ≤ 3 * xs.length + 1 ∧ bk xs.reverse 1 = bk (xs.take m).reverse n ∧ wr = w)
  case atStart => exact ⟨xs.length, 1, Nat.le_refl _, rfl, rfl, rfl, by omega, by rw [List.take_length], rfl⟩
  case round =>
    obtain ⟨m, n, hm, hg, rfl, rfl, hn3, hbk, rfl⟩ := hrel
    have HG := hide hg
    have HB := hide hbk
    clear hg hbk
    match n with
    | 0 =>
      have F : bgI xs = m := by
        unfold bgI
        rw [unhide HB, bk_zero]
        simp
        omega
      have HF := hide F
      clear F
      go_wp2
      go_ret
      exact ⟨ret_int (unhide HF).symm, rfl⟩
    | n + 1 =>
      match m with
      | 0 =>
        have F : bgI xs = -1 := by
          unfold bgI
          rw [unhide HB]
          rfl
        have HF := hide F
        clear F
        go_wp2
        go_ret
        exact ⟨ret_int (unhide HF).symm, rfl⟩
      | m + 1 =>
        have hlt : m < xs.length := by omega
        obtain ⟨b, o, cs, rfl, _, hb, hcs, hc, hR⟩ := unhide HX m hlt
        obtain ⟨rfl, hsn, ho, hvl⟩ := hR
        have c0 := hc 0 (by simp)
        simp only [Nat.mul_one, Nat.add_zero, List.getElem_cons_zero, List.getElem_cons_succ] at c0
        have hbd := arI_bd xs[m].op
        have HAR := hide (fun w => l1Arity_ok xs[m].op w ho)
        have hd := unhide HB
        rw [take_rev xs m hlt] at hd
        simp only [bk] at hd
        by_cases hneg : arI xs[m].op < 0
        · have F : bgI xs = -1 := by
            unfold bgI
            rw [hd, if_pos hneg]
          have HF := hide F
          clear F hd hc hcs ho hvl hsn
          generalize xs[m].op = op at *
          generalize arI op = ar at *
          go_wp2_with fail
          refine (unhide HAR _).mono ?_
          rintro e w1 ⟨rfl, rfl⟩
          go_wp2
          go_ret
          exact ⟨ret_int (unhide HF).symm, rfl⟩
        · rw [if_neg hneg] at hd
          have HF := hide hd
          clear hd hc hcs ho hvl hsn
          generalize xs[m].op = op at *
          generalize arI op = ar at *
          go_wp2_with fail
          refine (unhide HAR _).mono ?_
          rintro e w1 ⟨rfl, rfl⟩
          go_wp2_with fail
          refine (unhide HAR _).mono ?_
          rintro e w1 ⟨rfl, rfl⟩
          go_wp2
          go_roundg m
          case measure => have := unhide HG; omega
          case rel => exact ⟨m, n + ar.toNat, by omega, rfl, by go_num, int_eq (by omega), by omega, unhide HF, rfl⟩

end Go.Proofs.YtlgeioedgaajoaaGreatDoor
