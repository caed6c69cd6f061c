import Derived.Test.YtjjldnkhadakcaaGreatBegAt
import Derived.Deep.QuietTactic
import Derived.BigQuiet
import Derived.Deep.RegionHeld3
namespace Go.Proofs.YtjjldnkhadakcaaGreat
open Go.RowKit
set_option linter.unusedSimpArgs false
set_option linter.unusedVariables false
theorem l2WrapS (v : Int) (w : World) : Calls Tryz.prog 47 #[.int .i64 v] w fun e w' => e = .returned (.int .i64 (wrap32 v)) ∧ w' = w:=by
 go_enter Tryz.func47,Tryz.ntmps47
 go_wp2
 go_ret
 refine ⟨?_,rfl⟩
 show Ending.returned (.int .i64 _) = _
 congr 2
 unfold wrap64 wrap32
 omega
theorem l2BitS (b : Bool) (w : World) : Calls Tryz.prog 142 #[.bool b] w fun e w' => e = .returned (.int .i64 (bitI b)) ∧ w' = w:=by
 cases b
 all_goals
  go_enter Tryz.func142,Tryz.ntmps142
  go_wp2
  go_ret
  exact ⟨rfl,rfl⟩
theorem ret_i64 {a b : Int} (h : a = b) : Ending.returned (.int .i64 a) = .returned (.int .i64 b):=by rw [h]
theorem mul32 (a b : Int) (ha : -2147483648 ≤ a ∧ a ≤ 2147483647) (hb : -2147483648 ≤ b ∧ b ≤ 2147483647) : -4611686018427387904 ≤ a * b ∧ a * b ≤ 4611686018427387904:=by
 have h:=Int.natAbs_mul a b
 have h2 : a.natAbs * b.natAbs ≤ 2147483648 * 2147483648:=Nat.mul_le_mul (by omega) (by omega)
 omega
set_option maxRecDepth 20000 in
set_option maxHeartbeats 1000000 in
theorem l2Apply_6 (a b : Int) (g o c : Nat) (w : World) (ha : -2147483648 ≤ a ∧ a ≤ 2147483647) (hb : -2147483648 ≤ b ∧ b ≤ 2147483647) (k0 : w.cell? ⟨g,o,none⟩ = some (.int .i64 a)) (k1 : w.cell? ⟨g,o + 1,none⟩ = some (.int .i64 b)) :
  Calls Tryz.prog 130 #[.int .i64 6,.slice (some ⟨g,o,none⟩) 2 c] w fun e w' => e = .returned (.int .i64 (twoI 6 a b)) ∧ ∃ n,w' = w.drewN n:=by
 have H : Hid (twoI 6 a b = wrap32 (a + b)):=rfl
 have hm:=mul32 a b ha hb
 have hw : IntKind.i64.wrap (a + b) = a + b:=by rw [IntKind.wrap_i64]; omega
 have HW:=hide (l2WrapS (a + b))
 generalize twoI 6 a b = r at *
 clear hm
 go_enter Tryz.func130,Tryz.ntmps130
 go_wp2_with fail
 go_region_held3 (fun w' => w'.cell? ⟨g,o,none⟩ = some (.int .i64 a) ∧ w'.cell? ⟨g,o + 1,none⟩ = some (.int .i64 b)) (go_keep) (first | (go_at_call 47; refine (uh HW _).mono ?_; rintro e w1 ⟨rfl,rfl⟩))
 all_goals
  go_wp2
  go_ret
  exact ⟨ret_i64 (uh H).symm,1,rfl⟩
set_option maxRecDepth 20000 in
set_option maxHeartbeats 1000000 in
theorem l2Apply_7 (a b : Int) (g o c : Nat) (w : World) (ha : -2147483648 ≤ a ∧ a ≤ 2147483647) (hb : -2147483648 ≤ b ∧ b ≤ 2147483647) (k0 : w.cell? ⟨g,o,none⟩ = some (.int .i64 a)) (k1 : w.cell? ⟨g,o + 1,none⟩ = some (.int .i64 b)) :
  Calls Tryz.prog 130 #[.int .i64 7,.slice (some ⟨g,o,none⟩) 2 c] w fun e w' => e = .returned (.int .i64 (twoI 7 a b)) ∧ ∃ n,w' = w.drewN n:=by
 have H : Hid (twoI 7 a b = wrap32 (a - b)):=rfl
 have hm:=mul32 a b ha hb
 have hw : IntKind.i64.wrap (a - b) = a - b:=by rw [IntKind.wrap_i64]; omega
 have HW:=hide (l2WrapS (a - b))
 generalize twoI 7 a b = r at *
 clear hm
 go_enter Tryz.func130,Tryz.ntmps130
 go_wp2_with fail
 go_region_held3 (fun w' => w'.cell? ⟨g,o,none⟩ = some (.int .i64 a) ∧ w'.cell? ⟨g,o + 1,none⟩ = some (.int .i64 b)) (go_keep) (first | (go_at_call 47; refine (uh HW _).mono ?_; rintro e w1 ⟨rfl,rfl⟩))
 all_goals
  go_wp2
  go_ret
  exact ⟨ret_i64 (uh H).symm,1,rfl⟩
set_option maxRecDepth 20000 in
set_option maxHeartbeats 1000000 in
theorem l2Apply_8 (a b : Int) (g o c : Nat) (w : World) (ha : -2147483648 ≤ a ∧ a ≤ 2147483647) (hb : -2147483648 ≤ b ∧ b ≤ 2147483647) (k0 : w.cell? ⟨g,o,none⟩ = some (.int .i64 a)) (k1 : w.cell? ⟨g,o + 1,none⟩ = some (.int .i64 b)) :
  Calls Tryz.prog 130 #[.int .i64 8,.slice (some ⟨g,o,none⟩) 2 c] w fun e w' => e = .returned (.int .i64 (twoI 8 a b)) ∧ ∃ n,w' = w.drewN n:=by
 have H : Hid (twoI 8 a b = wrap32 (a * b)):=rfl
 have hm:=mul32 a b ha hb
 have hw : IntKind.i64.wrap (a * b) = a * b:=by rw [IntKind.wrap_i64]; omega
 have HW:=hide (l2WrapS (a * b))
 generalize twoI 8 a b = r at *
 clear hm
 go_enter Tryz.func130,Tryz.ntmps130
 go_wp2_with fail
 go_region_held3 (fun w' => w'.cell? ⟨g,o,none⟩ = some (.int .i64 a) ∧ w'.cell? ⟨g,o + 1,none⟩ = some (.int .i64 b)) (go_keep) (first | (go_at_call 47; refine (uh HW _).mono ?_; rintro e w1 ⟨rfl,rfl⟩))
 all_goals
  go_wp2
  go_ret
  exact ⟨ret_i64 (uh H).symm,1,rfl⟩
set_option maxRecDepth 20000 in
set_option maxHeartbeats 1000000 in
theorem l2Apply_11 (a b : Int) (g o c : Nat) (w : World) (ha : -2147483648 ≤ a ∧ a ≤ 2147483647) (hb : -2147483648 ≤ b ∧ b ≤ 2147483647) (k0 : w.cell? ⟨g,o,none⟩ = some (.int .i64 a)) (k1 : w.cell? ⟨g,o + 1,none⟩ = some (.int .i64 b)) :
  Calls Tryz.prog 130 #[.int .i64 11,.slice (some ⟨g,o,none⟩) 2 c] w fun e w' => e = .returned (.int .i64 (twoI 11 a b)) ∧ ∃ n,w' = w.drewN n:=by
 have H : Hid (twoI 11 a b = bitI (a == b)):=rfl
 have HW:=hide (l2BitS (a == b))
 generalize twoI 11 a b = r at *
 generalize bitI (a == b) = bt at *
 go_enter Tryz.func130,Tryz.ntmps130
 go_wp2_with fail
 go_region_held3 (fun w' => w'.cell? ⟨g,o,none⟩ = some (.int .i64 a) ∧ w'.cell? ⟨g,o + 1,none⟩ = some (.int .i64 b)) (go_keep) (first | (go_at_call 142; refine (uh HW _).mono ?_; rintro e w1 ⟨rfl,rfl⟩))
 all_goals
  go_wp2
  go_ret
  exact ⟨ret_i64 (uh H).symm,1,rfl⟩
set_option maxRecDepth 20000 in
set_option maxHeartbeats 1000000 in
theorem l2Apply_12 (a b : Int) (g o c : Nat) (w : World) (ha : -2147483648 ≤ a ∧ a ≤ 2147483647) (hb : -2147483648 ≤ b ∧ b ≤ 2147483647) (k0 : w.cell? ⟨g,o,none⟩ = some (.int .i64 a)) (k1 : w.cell? ⟨g,o + 1,none⟩ = some (.int .i64 b)) :
  Calls Tryz.prog 130 #[.int .i64 12,.slice (some ⟨g,o,none⟩) 2 c] w fun e w' => e = .returned (.int .i64 (twoI 12 a b)) ∧ ∃ n,w' = w.drewN n:=by
 have H : Hid (twoI 12 a b = bitI (a != b)):=rfl
 have HW:=hide (l2BitS (a != b))
 generalize twoI 12 a b = r at *
 generalize bitI (a != b) = bt at *
 go_enter Tryz.func130,Tryz.ntmps130
 go_wp2_with fail
 go_region_held3 (fun w' => w'.cell? ⟨g,o,none⟩ = some (.int .i64 a) ∧ w'.cell? ⟨g,o + 1,none⟩ = some (.int .i64 b)) (go_keep) (first | (go_at_call 142; refine (uh HW _).mono ?_; rintro e w1 ⟨rfl,rfl⟩))
 all_goals
  go_wp2
  go_ret
  exact ⟨ret_i64 (uh H).symm,1,rfl⟩
set_option maxRecDepth 20000 in
set_option maxHeartbeats 1000000 in
theorem l2Apply_13 (a b : Int) (g o c : Nat) (w : World) (ha : -2147483648 ≤ a ∧ a ≤ 2147483647) (hb : -2147483648 ≤ b ∧ b ≤ 2147483647) (k0 : w.cell? ⟨g,o,none⟩ = some (.int .i64 a)) (k1 : w.cell? ⟨g,o + 1,none⟩ = some (.int .i64 b)) :
  Calls Tryz.prog 130 #[.int .i64 13,.slice (some ⟨g,o,none⟩) 2 c] w fun e w' => e = .returned (.int .i64 (twoI 13 a b)) ∧ ∃ n,w' = w.drewN n:=by
 have H : Hid (twoI 13 a b = bitI (decide (a < b))):=rfl
 have HW:=hide (l2BitS (decide (a < b)))
 generalize twoI 13 a b = r at *
 generalize bitI (decide (a < b)) = bt at *
 go_enter Tryz.func130,Tryz.ntmps130
 go_wp2_with fail
 go_region_held3 (fun w' => w'.cell? ⟨g,o,none⟩ = some (.int .i64 a) ∧ w'.cell? ⟨g,o + 1,none⟩ = some (.int .i64 b)) (go_keep) (first | (go_at_call 142; refine (uh HW _).mono ?_; rintro e w1 ⟨rfl,rfl⟩))
 all_goals
  go_wp2
  go_ret
  exact ⟨ret_i64 (uh H).symm,1,rfl⟩
set_option maxRecDepth 20000 in
set_option maxHeartbeats 1000000 in
theorem l2Apply_14 (a b : Int) (g o c : Nat) (w : World) (ha : -2147483648 ≤ a ∧ a ≤ 2147483647) (hb : -2147483648 ≤ b ∧ b ≤ 2147483647) (k0 : w.cell? ⟨g,o,none⟩ = some (.int .i64 a)) (k1 : w.cell? ⟨g,o + 1,none⟩ = some (.int .i64 b)) :
  Calls Tryz.prog 130 #[.int .i64 14,.slice (some ⟨g,o,none⟩) 2 c] w fun e w' => e = .returned (.int .i64 (twoI 14 a b)) ∧ ∃ n,w' = w.drewN n:=by
 have H : Hid (twoI 14 a b = bitI (decide (a ≤ b))):=rfl
 have HW:=hide (l2BitS (decide (a ≤ b)))
 generalize twoI 14 a b = r at *
 generalize bitI (decide (a ≤ b)) = bt at *
 go_enter Tryz.func130,Tryz.ntmps130
 go_wp2_with fail
 go_region_held3 (fun w' => w'.cell? ⟨g,o,none⟩ = some (.int .i64 a) ∧ w'.cell? ⟨g,o + 1,none⟩ = some (.int .i64 b)) (go_keep) (first | (go_at_call 142; refine (uh HW _).mono ?_; rintro e w1 ⟨rfl,rfl⟩))
 all_goals
  go_wp2
  go_ret
  exact ⟨ret_i64 (uh H).symm,1,rfl⟩
set_option maxRecDepth 20000 in
set_option maxHeartbeats 1000000 in
theorem l2Apply_15 (a b : Int) (g o c : Nat) (w : World) (ha : -2147483648 ≤ a ∧ a ≤ 2147483647) (hb : -2147483648 ≤ b ∧ b ≤ 2147483647) (k0 : w.cell? ⟨g,o,none⟩ = some (.int .i64 a)) (k1 : w.cell? ⟨g,o + 1,none⟩ = some (.int .i64 b)) :
  Calls Tryz.prog 130 #[.int .i64 15,.slice (some ⟨g,o,none⟩) 2 c] w fun e w' => e = .returned (.int .i64 (twoI 15 a b)) ∧ ∃ n,w' = w.drewN n:=by
 have H : Hid (twoI 15 a b = bitI (decide (b < a))):=rfl
 have HW:=hide (l2BitS (decide (b < a)))
 generalize twoI 15 a b = r at *
 generalize bitI (decide (b < a)) = bt at *
 go_enter Tryz.func130,Tryz.ntmps130
 go_wp2_with fail
 go_region_held3 (fun w' => w'.cell? ⟨g,o,none⟩ = some (.int .i64 a) ∧ w'.cell? ⟨g,o + 1,none⟩ = some (.int .i64 b)) (go_keep) (first | (go_at_call 142; refine (uh HW _).mono ?_; rintro e w1 ⟨rfl,rfl⟩))
 all_goals
  go_wp2
  go_ret
  exact ⟨ret_i64 (uh H).symm,1,rfl⟩
set_option maxRecDepth 20000 in
set_option maxHeartbeats 1000000 in
theorem l2Apply_16 (a b : Int) (g o c : Nat) (w : World) (ha : -2147483648 ≤ a ∧ a ≤ 2147483647) (hb : -2147483648 ≤ b ∧ b ≤ 2147483647) (k0 : w.cell? ⟨g,o,none⟩ = some (.int .i64 a)) (k1 : w.cell? ⟨g,o + 1,none⟩ = some (.int .i64 b)) :
  Calls Tryz.prog 130 #[.int .i64 16,.slice (some ⟨g,o,none⟩) 2 c] w fun e w' => e = .returned (.int .i64 (twoI 16 a b)) ∧ ∃ n,w' = w.drewN n:=by
 have H : Hid (twoI 16 a b = bitI (decide (b ≤ a))):=rfl
 have HW:=hide (l2BitS (decide (b ≤ a)))
 generalize twoI 16 a b = r at *
 generalize bitI (decide (b ≤ a)) = bt at *
 go_enter Tryz.func130,Tryz.ntmps130
 go_wp2_with fail
 go_region_held3 (fun w' => w'.cell? ⟨g,o,none⟩ = some (.int .i64 a) ∧ w'.cell? ⟨g,o + 1,none⟩ = some (.int .i64 b)) (go_keep) (first | (go_at_call 142; refine (uh HW _).mono ?_; rintro e w1 ⟨rfl,rfl⟩))
 all_goals
  go_wp2
  go_ret
  exact ⟨ret_i64 (uh H).symm,1,rfl⟩
set_option maxRecDepth 20000 in
set_option maxHeartbeats 1000000 in
theorem l2Apply_9 (a b : Int) (g o c : Nat) (w : World) (ha : -2147483648 ≤ a ∧ a ≤ 2147483647) (hb : -2147483648 ≤ b ∧ b ≤ 2147483647) (k0 : w.cell? ⟨g,o,none⟩ = some (.int .i64 a)) (k1 : w.cell? ⟨g,o + 1,none⟩ = some (.int .i64 b)) :
  Calls Tryz.prog 130 #[.int .i64 9,.slice (some ⟨g,o,none⟩) 2 c] w fun e w' => e = .returned (.int .i64 (twoI 9 a b)) ∧ ∃ n,w' = w.drewN n:=by
 have H : Hid (twoI 9 a b = if b = 0 then 0 else wrap32 (a.tdiv b)):=rfl
 generalize twoI 9 a b = r at *
 by_cases h : b = 0
 ·rw [if_pos h] at H
  subst h
  go_enter Tryz.func130,Tryz.ntmps130
  go_wp2
  go_ret
  exact ⟨ret_i64 (uh H).symm,0,rfl⟩
 ·rw [if_neg h] at H
  have b0 : (b == 0) = false:=by rw [beq_eq_false_iff_ne]; exact h
  have hz2 : (a.tdiv b).natAbs ≤ a.natAbs:=by
   rw [Int.natAbs_tdiv a b]
   exact Nat.div_le_self _ _
  have hw : IntKind.i64.wrap (a.tdiv b) = a.tdiv b:=by rw [IntKind.wrap_i64]; omega
  have HW:=hide (l2WrapS (a.tdiv b))
  clear hz2
  go_enter Tryz.func130,Tryz.ntmps130
  go_wp2_with fail
  go_region_held3 (fun w' => w'.cell? ⟨g,o,none⟩ = some (.int .i64 a) ∧ w'.cell? ⟨g,o + 1,none⟩ = some (.int .i64 b)) (go_keep) (first | (go_at_call 47; refine (uh HW _).mono ?_; rintro e w1 ⟨rfl,rfl⟩))
  all_goals
   go_wp2
   go_ret
   exact ⟨ret_i64 (uh H).symm,1,rfl⟩
set_option maxRecDepth 20000 in
set_option maxHeartbeats 1000000 in
theorem l2Apply_10 (a b : Int) (g o c : Nat) (w : World) (ha : -2147483648 ≤ a ∧ a ≤ 2147483647) (hb : -2147483648 ≤ b ∧ b ≤ 2147483647) (k0 : w.cell? ⟨g,o,none⟩ = some (.int .i64 a)) (k1 : w.cell? ⟨g,o + 1,none⟩ = some (.int .i64 b)) :
  Calls Tryz.prog 130 #[.int .i64 10,.slice (some ⟨g,o,none⟩) 2 c] w fun e w' => e = .returned (.int .i64 (twoI 10 a b)) ∧ ∃ n,w' = w.drewN n:=by
 have H : Hid (twoI 10 a b = if b = 0 then 0 else a.tmod b):=rfl
 generalize twoI 10 a b = r at *
 by_cases h : b = 0
 ·rw [if_pos h] at H
  subst h
  go_enter Tryz.func130,Tryz.ntmps130
  go_wp2
  go_ret
  exact ⟨ret_i64 (uh H).symm,0,rfl⟩
 ·rw [if_neg h] at H
  have b0 : (b == 0) = false:=by rw [beq_eq_false_iff_ne]; exact h
  have HBn : Hid (∀ n,∃ m,w.drewN n = w.drewN m):=fun n => ⟨n,rfl⟩
  go_enter Tryz.func130,Tryz.ntmps130
  go_wp2_with fail
  go_quiet ((fail))
  go_wp2
  go_ret
  exact ⟨ret_i64 (uh H).symm,_,rfl⟩
set_option maxRecDepth 20000 in
set_option maxHeartbeats 1000000 in
theorem l2Apply_19 (a b : Int) (g o c : Nat) (w : World) (ha : -2147483648 ≤ a ∧ a ≤ 2147483647) (hb : -2147483648 ≤ b ∧ b ≤ 2147483647) (k0 : w.cell? ⟨g,o,none⟩ = some (.int .i64 a)) (k1 : w.cell? ⟨g,o + 1,none⟩ = some (.int .i64 b)) :
  Calls Tryz.prog 130 #[.int .i64 19,.slice (some ⟨g,o,none⟩) 2 c] w fun e w' => e = .returned (.int .i64 (twoI 19 a b)) ∧ ∃ n,w' = w.drewN n:=by
 have H : Hid (twoI 19 a b = bitI ((a != 0) != (b != 0))):=rfl
 have HW:=hide (l2BitS ((a != 0) != (b != 0)))
 generalize twoI 19 a b = r at *
 generalize bitI ((a != 0) != (b != 0)) = bt at *
 go_enter Tryz.func130,Tryz.ntmps130
 go_wp2_with fail
 go_region_held3 (fun w' => w'.cell? ⟨g,o,none⟩ = some (.int .i64 a) ∧ w'.cell? ⟨g,o + 1,none⟩ = some (.int .i64 b)) (go_keep) (first | (go_at_call 142; refine (uh HW _).mono ?_; rintro e w1 ⟨rfl,rfl⟩))
 all_goals
  go_wp2
  go_ret
  exact ⟨ret_i64 (uh H).symm,1,rfl⟩
set_option maxRecDepth 20000 in
set_option maxHeartbeats 1000000 in
theorem l2Apply_17 (a b : Int) (g o c : Nat) (w : World) (ha : -2147483648 ≤ a ∧ a ≤ 2147483647) (hb : -2147483648 ≤ b ∧ b ≤ 2147483647) (k0 : w.cell? ⟨g,o,none⟩ = some (.int .i64 a)) (k1 : w.cell? ⟨g,o + 1,none⟩ = some (.int .i64 b)) :
  Calls Tryz.prog 130 #[.int .i64 17,.slice (some ⟨g,o,none⟩) 2 c] w fun e w' => e = .returned (.int .i64 (twoI 17 a b)) ∧ ∃ n,w' = w.drewN n:=by
 have H : Hid (twoI 17 a b = bitI (a != 0 && b != 0)):=rfl
 generalize twoI 17 a b = r at *
 by_cases h : a = 0
 ·have H2 : Hid (r = bitI false):=by
   refine hide ?_
   rw [uh H,h]
   simp
  have HW:=hide (l2BitS false)
  subst h
  generalize bitI false = bt at *
  go_enter Tryz.func130,Tryz.ntmps130
  go_wp2_with fail
  refine (uh HW _).mono ?_
  rintro e w1 ⟨rfl,rfl⟩
  go_wp2
  go_ret
  exact ⟨ret_i64 (uh H2).symm,0,rfl⟩
 ·have b0 : (a != 0) = true:=by simpa using h
  have H2 : Hid (r = bitI (b != 0)):=by
   refine hide ?_
   rw [uh H,b0]
   simp
  have HW:=hide (l2BitS (b != 0))
  generalize bitI (b != 0) = bt at *
  go_enter Tryz.func130,Tryz.ntmps130
  go_wp2_with fail
  refine (uh HW _).mono ?_
  rintro e w1 ⟨rfl,rfl⟩
  go_wp2
  go_ret
  exact ⟨ret_i64 (uh H2).symm,0,rfl⟩
set_option maxRecDepth 20000 in
set_option maxHeartbeats 1000000 in
theorem l2Apply_18 (a b : Int) (g o c : Nat) (w : World) (ha : -2147483648 ≤ a ∧ a ≤ 2147483647) (hb : -2147483648 ≤ b ∧ b ≤ 2147483647) (k0 : w.cell? ⟨g,o,none⟩ = some (.int .i64 a)) (k1 : w.cell? ⟨g,o + 1,none⟩ = some (.int .i64 b)) :
  Calls Tryz.prog 130 #[.int .i64 18,.slice (some ⟨g,o,none⟩) 2 c] w fun e w' => e = .returned (.int .i64 (twoI 18 a b)) ∧ ∃ n,w' = w.drewN n:=by
 have H : Hid (twoI 18 a b = bitI (a != 0 || b != 0)):=rfl
 generalize twoI 18 a b = r at *
 by_cases h : a = 0
 ·have H2 : Hid (r = bitI (b != 0)):=by
   refine hide ?_
   rw [uh H,h]
   simp
  have HW:=hide (l2BitS (b != 0))
  subst h
  generalize bitI (b != 0) = bt at *
  go_enter Tryz.func130,Tryz.ntmps130
  go_wp2_with fail
  refine (uh HW _).mono ?_
  rintro e w1 ⟨rfl,rfl⟩
  go_wp2
  go_ret
  exact ⟨ret_i64 (uh H2).symm,0,rfl⟩
 ·have b0 : (a != 0) = true:=by simpa using h
  have H2 : Hid (r = bitI true):=by
   refine hide ?_
   rw [uh H,b0]
   simp
  have HW:=hide (l2BitS true)
  generalize bitI true = bt at *
  go_enter Tryz.func130,Tryz.ntmps130
  go_wp2_with fail
  refine (uh HW _).mono ?_
  rintro e w1 ⟨rfl,rfl⟩
  go_wp2
  go_ret
  exact ⟨ret_i64 (uh H2).symm,0,rfl⟩
set_option maxRecDepth 20000 in
set_option maxHeartbeats 1000000 in
theorem l2Apply_4 (a : Int) (g o c : Nat) (w : World) (ha : -2147483648 ≤ a ∧ a ≤ 2147483647) (k0 : w.cell? ⟨g,o,none⟩ = some (.int .i64 a)) :
  Calls Tryz.prog 130 #[.int .i64 4,.slice (some ⟨g,o,none⟩) 1 c] w fun e w' => e = .returned (.int .i64 (oneI 4 a)) ∧ w' = w:=by
 have H : Hid (oneI 4 a = wrap32 (-a)):=rfl
 have hw : IntKind.i64.wrap (-a) = -a:=by rw [IntKind.wrap_i64]; omega
 have HW:=hide (l2WrapS (-a) w)
 generalize oneI 4 a = r at *
 go_enter Tryz.func130,Tryz.ntmps130
 go_wp2_with fail
 refine (uh HW).mono ?_
 rintro e w1 ⟨rfl,rfl⟩
 go_wp2
 go_ret
 exact ⟨ret_i64 (uh H).symm,rfl⟩
set_option maxRecDepth 20000 in
set_option maxHeartbeats 1000000 in
theorem l2Apply_5 (a : Int) (g o c : Nat) (w : World) (k0 : w.cell? ⟨g,o,none⟩ = some (.int .i64 a)) :
  Calls Tryz.prog 130 #[.int .i64 5,.slice (some ⟨g,o,none⟩) 1 c] w fun e w' => e = .returned (.int .i64 (oneI 5 a)) ∧ w' = w:=by
 have H : Hid (oneI 5 a = bitI (a == 0)):=rfl
 have HW:=hide (l2BitS (a == 0) w)
 generalize oneI 5 a = r at *
 generalize bitI (a == 0) = bt at *
 go_enter Tryz.func130,Tryz.ntmps130
 go_wp2_with fail
 refine (uh HW).mono ?_
 rintro e w1 ⟨rfl,rfl⟩
 go_wp2
 go_ret
 exact ⟨ret_i64 (uh H).symm,rfl⟩
set_option maxRecDepth 20000 in
set_option maxHeartbeats 1000000 in
theorem l2Apply_20 (a b d : Int) (g o c : Nat) (w : World) (k0 : w.cell? ⟨g,o,none⟩ = some (.int .i64 a)) (k1 : w.cell? ⟨g,o + 1,none⟩ = some (.int .i64 b)) (k2 : w.cell? ⟨g,o + 2,none⟩ = some (.int .i64 d)) :
  Calls Tryz.prog 130 #[.int .i64 20,.slice (some ⟨g,o,none⟩) 3 c] w fun e w' => e = .returned (.int .i64 (if a ≠ 0 then b else d)) ∧ w' = w:=by
 by_cases h : a = 0
 ·rw [if_neg (by simpa using h)]
  subst h
  go_enter Tryz.func130,Tryz.ntmps130
  go_wp2
  go_ret
  exact ⟨rfl,rfl⟩
 ·rw [if_pos h]
  have b0 : (a != 0) = true:=by simpa using h
  go_enter Tryz.func130,Tryz.ntmps130
  go_wp2
  go_ret
  exact ⟨rfl,rfl⟩
end Go.Proofs.YtjjldnkhadakcaaGreat
