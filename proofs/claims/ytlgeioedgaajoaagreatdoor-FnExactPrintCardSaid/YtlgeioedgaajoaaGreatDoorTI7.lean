import Derived.Test.YtlgeioedgaajoaaGreatDoorTI5
import Derived.Test.YtlgeioedgaajoaaGreatDoorTI6
namespace Go.Proofs.YtlgeioedgaajoaaGreatDoor
open Go.RowKit
set_option linter.unusedSimpArgs false
set_option linter.unusedVariables false

theorem lhsJoin_ok (e : DEq) (v : Value) (w : World) (hS : SlAt 1 16 RStr 0 w v e.lhs) (he : eqB e = true) :
    Calls Tryz.prog 52 #[v, .string ⟨#[44, 32]⟩] w (Ans (.string (jnT Lcomma e.lhs)) w) := by
  obtain ⟨a, cap, rfl, ⟨_, hcap⟩, hn, hx⟩ := hS
  refine strJoin_ok e.lhs Lcomma a cap w (fun i hi => ?_) hcap (by decide) (fun x hx => ?_) (by have := ((eq_iff e).1 he).1; omega)
  · obtain ⟨b, o, cs, rfl, _, hb, hcs, hc, hR⟩ := hx i hi
    obtain ⟨rfl, _⟩ := hR
    have := hc 0 (by simp)
    simp only [Nat.mul_one, Nat.add_zero, List.getElem_cons_zero] at this
    exact ⟨b, o, rfl, hb, this⟩
  · have := name_size x (List.all_eq_true.1 ((eq_iff e).1 he).2.1 x hx)
    omega

set_option maxHeartbeats 2000000 in
theorem writeEquation_ok (w0 : World) (b : Nat) (hE : Env w0) (e : DEq) (he : eqB e = true) (l c v : Value) (h1 : SlAt 1 16 RStr 0 w0 l e.lhs) (h2 : SlAt 3 32 RItem 0 w0 c e.code) (h3 : SlAt 1 24 RItems 0 w0 v e.args)
    (w : World) (s : ByteArray) (hst : St w0 b s w) (hsz : s.size ≤ 80000000000000) :
    Calls Tryz.prog 33 #[.pointer (some ⟨b, 0, none⟩), .agg #[l, c, .string e.call, v]] w fun r w' => r = .returned (.tuple #[]) ∧ St w0 b (s ++ eqT e) w' ∧ BKeeps b w w' := by
  have P0 : Hid (Below w.heap.size w (w.alloc (.cells #[l, c, .string e.call, v] 45))) := (Below.refl _ _).alloc (Nat.le_refl _) _
  have HBX := hide (blk_box w #[l, c, .string e.call, v] 45)
  have HST0 := hide (hst.on (unhide P0))
  have HC1 := hide (lhsJoin_ok e l _ (h1.stays RStr_kept (unhide HST0).old) he)
  have hzl := lhs_size he
  have hzr := rhT_size he
  have HRH : Hid (rhT e = if e.call.size = 0 then cdT e.code else e.call ++ (Lop ++ (jnT Lcomma (e.args.map cdT) ++ Lcl))) := rfl
  have HEQ : Hid (s ++ eqT e = s ++ (Lind ++ jnT Lcomma e.lhs ++ Leq) ++ rhT e ++ Lend) := by
    show s ++ eqT e = s ++ (Lind ++ jnT Lcomma e.lhs ++ Leq) ++ rhT e ++ Lend
    unfold eqT
    simp only [ba_assoc]
  have z1 : Lind.size = 2 := rfl
  have z2 : Leq.size = 3 := rfl
  have z3 : Lend.size = 2 := rfl
  have HWA : Hid (∀ w', St w0 b s w' → _) := fun w' h => writeString_ok (Lind ++ jnT Lcomma e.lhs ++ Leq) (w := w') h (by simp only [ba_size]; omega)
  have HWE : Hid (∀ w' s', St w0 b s' w' → s'.size ≤ 100000000000000 → _) := fun w' s' h h2 => writeString_ok Lend (w := w') h (by omega)
  have HCO : Hid (e.call.size = 0 → ∀ w' s', St w0 b s' w' → s'.size ≤ 90000000000000 → _) := fun h0 w' s' h h' => writeCode_ok w0 b hE e.code c h2 (eq_code he h0) w' s' h (by omega)
  obtain ⟨la, lc, rfl⟩ := h1.shape
  obtain ⟨ca, cc, rfl⟩ := h2.shape
  obtain ⟨va, vc, rfl⟩ := h3.shape
  have HCA : Hid (¬ e.call.size = 0 → ∀ w' s', St w0 b s' w' → s'.size ≤ 90000000000000 → _) := fun h0 w' s' h h' => writeCall_ok w0 b hE e he h0 la ca e.lhs.length lc e.code.length cc _ h3 w' s' h h'
  have hcl : ¬ e.call.size = 0 → e.call.size ≤ 40 := fun h0 => name_size _ (eq_call he h0).1
  have hS1 : (s ++ (Lind ++ jnT Lcomma e.lhs ++ Leq)).size ≤ 80000000100000 := by simp only [ba_size]; omega
  rw [unhide HEQ]
  clear HEQ hst h1 h2 h3 he
  generalize jnT Lcomma e.lhs = jL at *
  generalize e.lhs.length = ln at *
  generalize e.code.length = cn at *
  generalize e.args.length = an at *
  generalize jnT Lcomma (e.args.map cdT) = jA at *
  generalize cdT e.code = cd at *
  generalize rhT e = rh at *
  generalize e.call = call at *
  go_enter Tryz.func33, Tryz.ntmps33
  go_wp2_with fail
  refine (unhide HC1).mono ?_
  rintro r w1 ⟨rfl, hb1⟩
  have HB1 := hide hb1
  have HST1 := hide ((unhide HST0).on hb1)
  have HBX1 := hide ((unhide HBX).below hb1 (by simp))
  have HC2 := hide (unhide HWA w1 (unhide HST1))
  clear hb1 HC1 HWA
  go_wp2_with fail
  refine (unhide HC2).mono ?_
  rintro r w2 ⟨rfl, hst2, hk2⟩
  have HST2 := hide hst2
  have HK2 := hide hk2
  have hbx2 := (unhide HBX1).kept (unhide HST1) hk2 (by decide)
  have k0 := hbx2.cell (i := 0) rfl
  have k1 := hbx2.cell (i := 1) rfl
  have k2 := hbx2.cell (i := 2) rfl
  have k3 := hbx2.cell (i := 3) rfl
  have HKW : Hid (BKeeps b w w2) := ((kept_below (unhide P0)).trans (kept_below (unhide HB1))).trans hk2
  clear hst2 hk2 HC2 hbx2
  generalize hSQ : s ++ (Lind ++ jL ++ Leq) = S at *
  have HSQ := hide hSQ
  clear hSQ
  by_cases h0 : call.size = 0
  · have e4 := empty_yes call h0
    have e4' := isEmpty_yes call h0
    have HC3 := hide (unhide HCO h0 w2 S (unhide HST2) (by omega))
    rw [if_pos h0] at HRH
    have hrr := unhide HRH
    subst hrr
    clear h0 HCO HCA HRH hcl
    go_wp2_with fail
    refine (unhide HC3).mono ?_
    rintro r w3 ⟨rfl, hst3, hk3⟩
    have HK3 := hide hk3
    have HC4 := hide (unhide HWE w3 _ hst3 (by simp only [ba_size]; omega))
    clear hst3 hk3 HC3
    go_wp2_with fail
    refine (unhide HC4).mono ?_
    rintro r w4 ⟨rfl, hst4, hk4⟩
    go_wp2
    go_end0
    exact ⟨rfl, by rw [unhide HSQ]; exact hst4, ((unhide HKW).trans (unhide HK3)).trans hk4⟩
  · have e4 := empty_no call h0
    have e4' := isEmpty_no call h0
    have HC3 := hide (unhide HCA h0 w2 S (unhide HST2) (by omega))
    rw [if_neg h0] at HRH
    rw [← unhide HRH] at HC3
    have hcz := hcl h0
    clear h0 HCO HCA hcl HRH
    go_wp2_with fail
    refine (unhide HC3).mono ?_
    rintro r w3 ⟨rfl, hst3, hk3⟩
    have HK3 := hide hk3
    have HC4 := hide (unhide HWE w3 _ hst3 (by simp only [ba_size]; omega))
    clear hst3 hk3 HC3
    go_wp2_with fail
    refine (unhide HC4).mono ?_
    rintro r w4 ⟨rfl, hst4, hk4⟩
    go_wp2
    go_end0
    exact ⟨rfl, by rw [unhide HSQ]; exact hst4, ((unhide HKW).trans (unhide HK3)).trans hk4⟩

end Go.Proofs.YtlgeioedgaajoaaGreatDoor
