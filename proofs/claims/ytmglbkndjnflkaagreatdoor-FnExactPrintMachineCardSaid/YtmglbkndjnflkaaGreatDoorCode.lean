import Derived.Test.YtmglbkndjnflkaaGreatDoorItems
namespace Go.Proofs.YtmglbkndjnflkaaGreatDoor
open Go.RowKit
set_option linter.unusedSimpArgs false
set_option linter.unusedVariables false

def wk : List DItem → Int → Bool
  | [], r => r == 1
  | t :: ts, r => if r < ocI t.op then false else wk ts (r + (1 - ocI t.op))

/-- From the end: how many items are left when need operands are found; none if they aren't all there. -/
def bk : List DItem → Nat → Option Nat
  | ts, 0 => some ts.length
  | [], _ + 1 => none
  | t :: ts, n + 1 => if arI t.op < 0 then none else bk ts (n + (arI t.op).toNat)
def bgI (code : List DItem) : Int := match bk code.reverse 1 with
  | none => -1
  | some m => m

set_option maxHeartbeats 400000 in
theorem worksOut_ok (xs : List DItem) (v : Value) (w : World) (hv : SlAt 3 32 RItem 0 w v xs) :
    Calls Tryz.prog 143 #[v] w (Ans (.bool (wk xs 0)) w) := by
  obtain ⟨a, cap, rfl, _, hn, hx⟩ := hv
  unfold Len at hn
  have HX := hide hx
  clear hx
  go_enter Tryz.func143, Tryz.ntmps143
  go_wp2
  go_loopg [3, 9] xs.length (fun g l i wr => ∃ (k : Nat) (r : Int), k ≤ xs.length ∧ g = xs.length - k ∧ i = .int .i64 k ∧ l = .int .i64 r ∧ 0 ≤ r ∧ r ≤ k ∧ wk xs 0 = wk (xs.drop k) r ∧ Below w.heap.size w wr)
  case atStart => exact ⟨0, 0, Nat.zero_le _, by omega, rfl, rfl, by omega, by omega, by simp, Below.refl _ _⟩
  case round =>
    obtain ⟨k, r, hk, hg, rfl, rfl, hr0, hr1, hwk, hbl⟩ := hrel
    have HG := hide hg
    have HW := hide hwk
    clear hg hwk
    by_cases hlt : k < xs.length
    · obtain ⟨b, o, cs, rfl, _, hb, hcs, hc, hR⟩ := unhide HX k hlt
      have hc : ∀ j (hj : j < cs.length), wr.cell? ⟨b, o + k * 3 + j, none⟩ = some cs[j] := fun j hj => by rw [hbl.cell (p := ⟨b, _, none⟩) hb]; exact hc j hj
      obtain ⟨rfl, hsn, ho, hvl⟩ := hR
      have c0 := hc 0 (by simp)
      have c1 := hc 1 (by simp)
      have c2 := hc 2 (by simp)
      simp only [Nat.mul_one, Nat.add_zero, List.getElem_cons_zero, List.getElem_cons_succ] at c0 c1 c2
      have hd : xs.drop k = xs[k] :: xs.drop (k + 1) := List.drop_eq_getElem_cons hlt
      have hbd := ocI_bd xs[k].op
      have HOC := hide (fun w => operandCount_ok xs[k].op w)
      by_cases hneg : r < ocI xs[k].op
      · have F : wk xs 0 = false := by rw [unhide HW, hd]; simp only [wk]; rw [if_pos hneg]
        have HF := hide F
        clear F hd hc hcs ho hvl hsn
        generalize xs[k].op = op at *
        generalize ocI op = oc at *
        go_wp2_with fail
        refine (unhide HOC _).mono ?_
        rintro e w1 ⟨rfl, rfl⟩
        go_wp2
        go_ret
        exact ⟨ret_bool (unhide HF).symm, hbl.trans ((Below.refl _ _).alloc hbl.size _)⟩
      · have F : wk xs 0 = wk (xs.drop (k + 1)) (r + (1 - ocI xs[k].op)) := by
          rw [unhide HW, hd]
          simp only [wk]
          rw [if_neg hneg]
        have HF := hide F
        clear F hd hc hcs ho hvl hsn
        generalize xs[k].op = op at *
        generalize ocI op = oc at *
        go_wp2_with fail
        refine (unhide HOC _).mono ?_
        rintro e w1 ⟨rfl, rfl⟩
        go_wp2
        go_roundg (xs.length - (k + 1))
        case measure => have := unhide HG; omega
        case rel => exact ⟨k + 1, r + (1 - oc), by omega, rfl, by go_num, rfl, by omega, by omega, unhide HF, hbl.trans ((Below.refl _ _).alloc hbl.size _)⟩
    · have e : k = xs.length := by omega
      have F : wk xs 0 = (r == 1) := by rw [unhide HW, e, List.drop_length]; rfl
      have HF := hide F
      clear F
      go_wp2
      go_ret
      exact ⟨ret_bool (unhide HF).symm, hbl⟩

theorem int_eq {a b : Int} (h : a = b) : Value.int .i64 a = .int .i64 b := by rw [h]
theorem bk_zero (ts : List DItem) : bk ts 0 = some ts.length := by cases ts <;> rfl
theorem take_rev (xs : List DItem) (a : Nat) (h : a < xs.length) : (xs.take (a + 1)).reverse = xs[a] :: (xs.take a).reverse := by
  rw [List.take_succ_eq_append_getElem h, List.reverse_append]
  rfl

set_option maxHeartbeats 400000 in
theorem l1Begin_ok (xs : List DItem) (v : Value) (w : World) (hv : SlAt 3 32 RItem 0 w v xs) :
    Calls Tryz.prog 110 #[v, .int .i64 xs.length] w fun e w' => e = .returned (.int .i64 (bgI xs)) ∧ w' = w := by
  obtain ⟨a, cap, rfl, _, hn, hx⟩ := hv
  unfold Len at hn
  have HX := hide hx
  clear hx
  go_enter Tryz.func110, Tryz.ntmps110
  go_wp2
  go_loopg [5, 6] (xs.length) (fun g l i wr => ∃ (m n : Nat), m ≤ xs.length ∧ g = m ∧ l = .int .i64 m ∧ i = .int .i64 n ∧ n + 3 * m ≤ 3 * xs.length + 1 ∧ bk xs.reverse 1 = bk (xs.take m).reverse n ∧ wr = w)
  case atStart => exact ⟨xs.length, 1, Nat.le_refl _, rfl, rfl, rfl, by omega, by rw [List.take_length], rfl⟩
  case round =>
    obtain ⟨m, n, hm, hg, rfl, rfl, hn3, hbk, rfl⟩ := hrel
    have HG := hide hg
    have HB := hide hbk
    clear hg hbk
    match n with
    | 0 =>
      have F : bgI xs = m := by
        unfold bgI
        rw [unhide HB, bk_zero]
        simp
        omega
      have HF := hide F
      clear F
      go_wp2
      go_ret
      exact ⟨ret_int (unhide HF).symm, rfl⟩
    | n + 1 =>
      match m with
      | 0 =>
        have F : bgI xs = -1 := by
          unfold bgI
          rw [unhide HB]
          rfl
        have HF := hide F
        clear F
        go_wp2
        go_ret
        exact ⟨ret_int (unhide HF).symm, rfl⟩
      | m + 1 =>
        have hlt : m < xs.length := by omega
        obtain ⟨b, o, cs, rfl, _, hb, hcs, hc, hR⟩ := unhide HX m hlt
        obtain ⟨rfl, hsn, ho, hvl⟩ := hR
        have c0 := hc 0 (by simp)
        simp only [Nat.mul_one, Nat.add_zero, List.getElem_cons_zero, List.getElem_cons_succ] at c0
        have hbd := arI_bd xs[m].op
        have HAR := hide (fun w => l1Arity_ok xs[m].op w ho)
        have hd := unhide HB
        rw [take_rev xs m hlt] at hd
        simp only [bk] at hd
        by_cases hneg : arI xs[m].op < 0
        · have F : bgI xs = -1 := by
            unfold bgI
            rw [hd, if_pos hneg]
          have HF := hide F
          clear F hd hc hcs ho hvl hsn
          generalize xs[m].op = op at *
          generalize arI op = ar at *
          go_wp2_with fail
          refine (unhide HAR _).mono ?_
          rintro e w1 ⟨rfl, rfl⟩
          go_wp2
          go_ret
          exact ⟨ret_int (unhide HF).symm, rfl⟩
        · rw [if_neg hneg] at hd
          have HF := hide hd
          clear hd hc hcs ho hvl hsn
          generalize xs[m].op = op at *
          generalize arI op = ar at *
          go_wp2_with fail
          refine (unhide HAR _).mono ?_
          rintro e w1 ⟨rfl, rfl⟩
          go_wp2_with fail
          refine (unhide HAR _).mono ?_
          rintro e w1 ⟨rfl, rfl⟩
          go_wp2
          go_roundg m
          case measure => have := unhide HG; omega
          case rel => exact ⟨m, n + ar.toNat, by omega, rfl, by go_num, int_eq (by omega), by omega, unhide HF, rfl⟩

end Go.Proofs.YtmglbkndjnflkaaGreatDoor
namespace Go.Proofs.YtmglbkndjnflkaaGreatDoor
open Go.RowKit
set_option linter.unusedSimpArgs false
set_option linter.unusedVariables false

def cdB (code : List DItem) : Bool := decide (code.length ≤ 3000) && code.all itB && wk code 0
def scB (code : List DItem) : Bool := decide (1 ≤ code.length ∧ code.length ≤ 3000) && bgI code == 0 && code.all sItB
def scM (most : Int) (code : List DItem) : Bool := decide (1 ≤ code.length ∧ (code.length : Int) ≤ most) && bgI code == 0 && code.all sItB
theorem scM_3000 (code : List DItem) : scM 3000 code = scB code := by
  unfold scM scB
  have : decide (1 ≤ code.length ∧ (code.length : Int) ≤ 3000) = decide (1 ≤ code.length ∧ code.length ≤ 3000) := by rw [decide_eq_decide]; omega
  rw [this]

theorem hItem (x : DItem) (cs : List Value) (w : World) (h : RItem 0 w cs x) : Calls Tryz.prog 144 #[valOfItem cs] w (Ans (.bool (itB x)) w) := by
  obtain ⟨rfl, h0, _, _⟩ := h
  exact itemOK_ok x w h0

set_option maxHeartbeats 400000 in
theorem l1CodeOK_any (most : Int) (xs : List DItem) (v : Value) (w : World) (hv : SlAt 3 32 RItem 0 w v xs) :
    Calls Tryz.prog 85 #[v, .int .i64 most] w (Ans (.bool (scM most xs)) w) := by
  have HV := hide hv
  obtain ⟨a, cap, rfl, _, hn, hx⟩ := hv
  have HX := hide hx
  clear hx
  unfold Len at hn
  by_cases h1 : xs.length < 1
  · have d1 : decide ((xs.length : Int) < 1) = true := by simp; omega
    have e : scM most xs = false := by
      have : decide (1 ≤ xs.length ∧ (xs.length : Int) ≤ most) = false := by rw [decide_eq_false_iff_not]; omega
      simp only [scM, this, Bool.false_and]
    rw [e]
    clear e
    go_enter Tryz.func85, Tryz.ntmps85
    go_wp2
    go_ret
    exact ⟨rfl, Below.refl _ _⟩
  have d1 : decide ((xs.length : Int) < 1) = false := by simp; omega
  by_cases h2 : most < (xs.length : Int)
  · have d2 : decide (most < (xs.length : Int)) = true := by simp; omega
    have e : scM most xs = false := by
      have : decide (1 ≤ xs.length ∧ (xs.length : Int) ≤ most) = false := by rw [decide_eq_false_iff_not]; omega
      simp only [scM, this, Bool.false_and]
    rw [e]
    clear e
    go_enter Tryz.func85, Tryz.ntmps85
    go_wp2
    go_ret
    exact ⟨rfl, Below.refl _ _⟩
  have d2 : decide (most < (xs.length : Int)) = false := by simp; omega
  have hlen : decide (1 ≤ xs.length ∧ (xs.length : Int) ≤ most) = true := by simp; omega
  cases h3 : (bgI xs == 0)
  · have e : scM most xs = false := by simp only [scM, h3]; simp
    rw [e]
    clear e
    have d3 : (bgI xs != 0) = true := by rw [bne, h3]; rfl
    have HBG := hide (l1Begin_ok xs _ w (unhide HV))
    generalize bgI xs = bg at *
    clear hlen
    go_enter Tryz.func85, Tryz.ntmps85
    go_wp2_with fail
    refine (unhide HBG).mono ?_
    rintro e w1 ⟨rfl, rfl⟩
    go_wp2
    go_ret
    exact ⟨rfl, Below.refl _ _⟩
  · have e : scM most xs = xs.all sItB := by simp only [scM, h3, hlen]; simp
    rw [e]
    clear e
    have d3 : (bgI xs != 0) = false := by rw [bne, h3]; rfl
    have HBG := hide (l1Begin_ok xs _ w (unhide HV))
    generalize bgI xs = bg at *
    clear hlen
    go_enter Tryz.func85, Tryz.ntmps85
    go_wp2_with fail
    refine (unhide HBG).mono ?_
    rintro e w ⟨rfl, rfl⟩
    go_wp2
    go_loopg [25] xs.length (fun g i wr => ∃ (k : Nat), k ≤ xs.length ∧ g = xs.length - k ∧ i = .int .i64 k ∧ Below w.heap.size w wr ∧ ∀ j (h : j < xs.length), j < k → sItB xs[j] = true)
    case atStart => exact ⟨0, Nat.zero_le _, by omega, rfl, Below.refl _ _, fun j _ h => absurd h (Nat.not_lt_zero _)⟩
    case round =>
      obtain ⟨k, hk, hg, rfl, hbl, hall⟩ := hrel
      have HG := hide hg
      have HA := hide hall
      clear hg hall
      by_cases hlt : k < xs.length
      · obtain ⟨b, o, cs, rfl, _, hb, hcs, hc, hR⟩ := unhide HX k hlt
        have hc : ∀ j (hj : j < cs.length), wr.cell? ⟨b, o + k * 3 + j, none⟩ = some cs[j] := fun j hj => by rw [hbl.cell (p := ⟨b, _, none⟩) hb]; exact hc j hj
        obtain ⟨rfl, hsn, ho, hvl⟩ := hR
        have c0 := hc 0 (by simp)
        have c1 := hc 1 (by simp)
        have c2 := hc 2 (by simp)
        simp only [Nat.mul_one, Nat.add_zero, List.getElem_cons_zero, List.getElem_cons_succ] at c0 c1 c2
        have HC := hide (fun w => l1ItemOK_ok xs[k] w hsn)
        clear hc hcs hsn ho hvl
        cases hp : sItB xs[k]
        · have F : xs.all sItB = false := by
            rw [List.all_eq_false]
            exact ⟨xs[k], List.getElem_mem hlt, by rw [hp]; decide⟩
          have HF := hide F
          clear F
          go_wp2_with fail
          refine (unhide HC _).mono ?_
          rintro e w1 ⟨rfl, hb1⟩
          rw [hp]
          go_wp2
          go_ret
          exact ⟨ret_bool (unhide HF).symm, hbl.trans (((Below.refl _ _).alloc hbl.size _).trans (hb1.mono (Nat.le_trans hbl.size (by simp))))⟩
        · have A' : ∀ j (h : j < xs.length), j < k + 1 → sItB xs[j] = true := by
            intro j h h1
            by_cases e : j = k
            · subst e; exact hp
            · exact unhide HA j h (by omega)
          have HA' := hide A'
          clear A'
          go_wp2_with fail
          refine (unhide HC _).mono ?_
          rintro e w1 ⟨rfl, hb1⟩
          rw [hp]
          go_wp2
          go_roundg (xs.length - (k + 1))
          case measure => have := unhide HG; omega
          case rel => exact ⟨k + 1, by omega, rfl, by go_num, hbl.trans (((Below.refl _ _).alloc hbl.size _).trans (hb1.mono (Nat.le_trans hbl.size (by simp)))), unhide HA'⟩
      · have e : k = xs.length := by omega
        have T : xs.all sItB = true := by
          rw [List.all_eq_true]
          intro x hx
          obtain ⟨j, hj, rfl⟩ := List.getElem_of_mem hx
          exact unhide HA j hj (by omega)
        have HT := hide T
        clear T
        go_wp2
        go_ret
        exact ⟨ret_bool (unhide HT).symm, hbl⟩

theorem l1CodeOK_ok (xs : List DItem) (v : Value) (w : World) (hv : SlAt 3 32 RItem 0 w v xs) :
    Calls Tryz.prog 85 #[v, .int .i64 3000] w (Ans (.bool (scB xs)) w) := by
  rw [← scM_3000]
  exact l1CodeOK_any 3000 xs v w hv

end Go.Proofs.YtmglbkndjnflkaaGreatDoor
namespace Go.Proofs.YtmglbkndjnflkaaGreatDoor
open Go.RowKit
set_option linter.unusedSimpArgs false
set_option linter.unusedVariables false

def fw : List DItem → Int → Option Int
  | [], r => some r
  | t :: ts, r => if r < arI t.op then none else fw ts (r + (1 - arI t.op))

theorem fw_append (xs : List DItem) (t : DItem) (r : Int) : fw (xs ++ [t]) r = (fw xs r).bind (fun q => if q < arI t.op then none else some (q + (1 - arI t.op))) := by
  induction xs generalizing r with
  | nil => simp [fw]
  | cons x xs ih =>
    simp only [List.cons_append, fw]
    split
    · rfl
    · exact ih _

theorem bk_fw (rev : List DItem) (n : Nat) : bk rev n = some 0 ↔ (∀ t, t ∈ rev → 0 ≤ arI t.op) ∧ fw rev.reverse 0 = some (n : Int) := by
  induction rev generalizing n with
  | nil =>
    cases n with
    | zero => simp [bk, fw]
    | succ n =>
      simp [bk, fw]
      omega
  | cons t ts ih =>
    rw [List.reverse_cons, fw_append]
    cases n with
    | zero =>
      rw [bk_zero]
      constructor
      · intro h; simp at h
      · rintro ⟨h1, h2⟩
        cases hq : fw ts.reverse 0 with
        | none => rw [hq] at h2; simp at h2
        | some q =>
          rw [hq] at h2
          simp at h2
          omega
    | succ n =>
      simp only [bk]
      by_cases hneg : arI t.op < 0
      · rw [if_pos hneg]
        constructor
        · intro h; cases h
        · rintro ⟨h1, _⟩
          have := h1 t (List.mem_cons_self ..)
          omega
      · rw [if_neg hneg, ih]
        constructor
        · rintro ⟨h1, h2⟩
          refine ⟨fun x hx => ?_, ?_⟩
          · rcases List.mem_cons.1 hx with rfl | hx
            · omega
            · exact h1 x hx
          · rw [h2]
            simp
            omega
        · rintro ⟨h1, h2⟩
          refine ⟨fun x hx => h1 x (List.mem_cons_of_mem _ hx), ?_⟩
          cases hq : fw ts.reverse 0 with
          | none => rw [hq] at h2; simp at h2
          | some q =>
            rw [hq] at h2
            simp at h2
            rw [Option.some.injEq]
            omega

theorem wk_fw (xs : List DItem) (r : Int) (h : ∀ t, t ∈ xs → ocI t.op = arI t.op) : wk xs r = true ↔ fw xs r = some 1 := by
  induction xs generalizing r with
  | nil =>
    simp only [wk, fw]
    simp
  | cons t ts ih =>
    simp only [wk, fw]
    rw [h t (List.mem_cons_self ..)]
    by_cases hneg : r < arI t.op
    · rw [if_pos hneg, if_pos hneg]; simp
    · rw [if_neg hneg, if_neg hneg]
      exact ih _ (fun x hx => h x (List.mem_cons_of_mem _ hx))

theorem oc_ar (op : Int) (h : 0 ≤ arI op) : ocI op = arI op := by
  unfold arI at *
  unfold ocI
  by_cases h1 : (1 ≤ op ∧ op ≤ 3) ∨ op = 25
  · rw [if_pos h1, if_pos (by omega)]
  · rw [if_neg h1] at h
    rw [if_neg h1, if_neg (by omega)]
    by_cases h2 : op = 4 ∨ op = 5 ∨ op = 21 ∨ op = 22 ∨ op = 23
    · rw [if_pos h2, if_pos h2]
    · rw [if_neg h2] at h
      rw [if_neg h2, if_neg h2]
      by_cases h3 : (6 ≤ op ∧ op ≤ 19) ∨ op = 24
      · rw [if_pos h3, if_neg (by omega)]
      · rw [if_neg h3] at h
        rw [if_neg h3]
        by_cases h4 : op = 20
        · rw [if_pos h4, if_pos h4]
        · rw [if_neg h4] at h
          omega

theorem ar_iff (op : Int) : 0 ≤ arI op ↔ 1 ≤ op ∧ op ≤ 25 := by
  unfold arI
  by_cases h1 : (1 ≤ op ∧ op ≤ 3) ∨ op = 25
  · rw [if_pos h1]; omega
  · rw [if_neg h1]
    by_cases h2 : op = 4 ∨ op = 5 ∨ op = 21 ∨ op = 22 ∨ op = 23
    · rw [if_pos h2]; omega
    · rw [if_neg h2]
      by_cases h3 : (6 ≤ op ∧ op ≤ 19) ∨ op = 24
      · rw [if_pos h3]; omega
      · rw [if_neg h3]
        by_cases h4 : op = 20
        · rw [if_pos h4]; omega
        · rw [if_neg h4]; omega

theorem bg_zero (xs : List DItem) : (bgI xs == 0) = true ↔ bk xs.reverse 1 = some 0 := by
  unfold bgI
  rw [beq_iff_eq]
  cases h : bk xs.reverse 1 with
  | none => simp
  | some m => simp

theorem it_iff (t : DItem) : itB t = true ↔ (1 ≤ t.op ∧ t.op ≤ 24) ∧ rgB t = true ∧ nmB t = true := by
  simp [itB, and_assoc]
theorem sit_iff (t : DItem) : sItB t = true ↔ nmB t = true ∧ (t.op = 25 ∨ rgB t = true) := by
  simp [sItB]

theorem code_same (xs : List DItem) : (scB xs && xs.all (fun t => !(t.op == 25))) = cdB xs := by
  rw [Bool.eq_iff_iff]
  simp only [scB, cdB, Bool.and_eq_true, decide_eq_true_iff, List.all_eq_true, bg_zero, bk_fw, List.reverse_reverse, List.mem_reverse]
  constructor
  · rintro ⟨⟨⟨⟨h1, h2⟩, h3, h4⟩, h5⟩, h6⟩
    refine ⟨⟨h2, fun t ht => ?_⟩, ?_⟩
    · rw [it_iff]
      have a := (ar_iff t.op).1 (h3 t ht)
      have b := (sit_iff t).1 (h5 t ht)
      have c : ¬ t.op = 25 := by have := h6 t ht; simpa using this
      exact ⟨by omega, b.2.resolve_left c, b.1⟩
    · exact (wk_fw xs 0 (fun t ht => oc_ar _ (h3 t ht))).2 (by simpa using h4)
  · rintro ⟨⟨h2, h3⟩, h4⟩
    have har : ∀ t, t ∈ xs → 0 ≤ arI t.op := fun t ht => (ar_iff t.op).2 (by have := ((it_iff t).1 (h3 t ht)).1; omega)
    have h5 : fw xs 0 = some 1 := (wk_fw xs 0 (fun t ht => oc_ar _ (har t ht))).1 h4
    refine ⟨⟨⟨⟨?_, h2⟩, har, by simpa using h5⟩, fun t ht => ?_⟩, fun t ht => ?_⟩
    · cases xs with
      | nil => simp [fw] at h5
      | cons t ts => simp
    · have := (it_iff t).1 (h3 t ht)
      exact (sit_iff t).2 ⟨this.2.2, Or.inr this.2.1⟩
    · have := (it_iff t).1 (h3 t ht)
      have c : ¬ t.op = 25 := by omega
      simpa using c

def condB (c : DCond) : Bool := nameB c.name
def varB (v : DVar) : Bool := nameB v.name && decide (v.type = 1 ∨ v.type = 2) && decide (v.clock.length ≤ 8) && v.clock.all condB
def portB (v : DVar) : Bool := decide (v.clock.length = 0) && varB v
def eqB (e : DEq) : Bool := decide (1 ≤ e.lhs.length ∧ e.lhs.length ≤ 500 ∧ e.args.length ≤ 500) && e.lhs.all nameB && (if e.call.size = 0 then decide (e.lhs.length = 1 ∧ e.args.length = 0) && cdB e.code else nameB e.call && decide (e.code.length = 0) && e.args.all cdB)
def nodeB (n : DNode) : Bool := decide (1 ≤ n.outs.length ∧ n.ins.length + n.outs.length + n.vars.length ≤ 500 ∧ 1 ≤ n.eqs.length ∧ n.eqs.length ≤ 500) && nameB n.name && n.ins.all portB && n.outs.all portB && n.vars.all varB && n.eqs.all eqB
def shapeB (ns : List DNode) : Bool := decide (1 ≤ ns.length ∧ ns.length ≤ 200) && ns.all nodeB

end Go.Proofs.YtmglbkndjnflkaaGreatDoor
