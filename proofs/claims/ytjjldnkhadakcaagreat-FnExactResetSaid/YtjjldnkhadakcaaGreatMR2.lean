import Derived.Test.YtjjldnkhadakcaaGreatMR1
import Derived.Test.YtjjldnkhadakcaaGreatM15
import Derived.Test.YtjjldnkhadakcaaGreatMI24
import Derived.Test.YtjjldnkhadakcaaGreatMkB
namespace Go.Proofs.YtjjldnkhadakcaaGreat
open Go.RowKit
set_option linter.unusedSimpArgs false
set_option linter.unusedVariables false

theorem first_s (ks : List DClass) (i : Nat) (mems insts : List Int) (hin : ∀ q (hq : q < insts.length), 0 ≤ insts[q] ∧ insts[q] < (i : Int)) (q : Nat) (hq : q ≤ insts.length) : firstTo (fTo ks i) mems insts q = sTo (fAt ks) mems insts q := by
  induction q with
  | zero => rw [firstTo_zero, sTo_zero]
  | succ q ih =>
    obtain ⟨h1, h2⟩ := hin q (by omega)
    rw [firstTo_succ _ _ _ _ (by omega), sTo_succ _ _ _ _ (by omega), ih (by omega), fTo_get ks i _ (by omega)]
theorem rs_of (ks : List DClass) (h : plansB ks = true) : RS ks (fAt ks) := by
  have hf := fok_of ks h
  refine ⟨fun i hi => ?_, hf.len, fun i hi x hx => ?_, hf.ins⟩
  · rw [fAt_eq ks i hi]
    exact first_s ks i _ _ (hf.ins i hi).2 _ (Nat.le_refl _)
  · have := hf.val i hi x hx
    unfold V32 at this
    unfold I64
    omega
theorem plans_of_has (ks : List DClass) (c : Int) (h : hasB ks c = true) : plansB ks = true ∧ 0 ≤ c ∧ c < (ks.length : Int) := by
  unfold hasB at h
  rw [← plans_mach, Bool.and_eq_true, Bool.and_eq_true] at h
  exact ⟨h.1.1, of_decide_eq_true h.2⟩
def stateOf (ks : List DClass) (c : Int) : List Int := if hasB ks c = true then fAt ks c.toNat else []
def SlPost (xs : List Int) (w : World) (e : Ending) (w' : World) : Prop := ∃ r, e = .returned r ∧ SlAt 1 8 RInt 0 w' r xs ∧ Below w.heap.size w w'
theorem nil_ints (w : World) (a : Option Addr) (c : Nat) (lo : Nat) : SlAt 1 8 RInt lo w (.slice a 0 c) [] := ⟨a, c, rfl, ⟨by unfold Len; simp, Nat.zero_le _⟩, by unfold Len; simp, fun i hi => absurd hi (Nat.not_lt_zero _)⟩

set_option maxHeartbeats 1000000 in
theorem specReset_ok (ks : List DClass) (v : Value) (c : Int) (w : World) (hm : SlAt 7 160 RClass 0 w v ks) (hs : VarsFew ks) (hc : I64 c) :
    Calls Tryz.prog 17 #[.agg #[v], .int .i64 c] w (SlPost (stateOf ks c) w) := by
  have hcl := classDoes ks v w hm hs
  obtain ⟨b0, c0, rfl⟩ := hm.shape
  have hA : Below w.heap.size w (w.alloc (.cells #[.slice b0 ks.length c0] 29)) := (Below.refl _ _).alloc (Nat.le_refl _) _
  have HC := hide (l3HasClass_of ks _ c _ (hm.stays RClass_kept hA) (hcl.later hA) hc)
  have HA := hide hA
  have HV := hide hm
  have HBK := hide (blk_box w #[.slice b0 ks.length c0] 29)
  have HG : Hid (hasB ks c = true → RS ks (fAt ks) ∧ 0 ≤ c ∧ c < (ks.length : Int)) := fun h => ⟨rs_of ks (plans_of_has ks c h).1, (plans_of_has ks c h).2⟩
  unfold stateOf
  clear hA hm hcl hc hs
  generalize hasB ks c = hb at *
  cases hb
  · rw [if_neg (by simp)]
    go_enter Tryz.func17, Tryz.ntmps17
    go_wp2_with fail
    refine (unhide HC).mono ?_
    rintro e w1 ⟨rfl, hb1⟩
    have HB := hide ((unhide HA).trans (hb1.mono (unhide HA).size))
    clear hb1
    go_wp2
    go_ret
    exact ⟨_, rfl, nil_ints _ _ _ _, (unhide HB).alloc (unhide HB).size _⟩
  obtain ⟨hok, h0, hlt⟩ := unhide HG rfl
  obtain ⟨n, rfl⟩ := Int.eq_ofNat_of_zero_le h0
  have HOK := hide hok
  have HN : Hid (n < ks.length) := (by omega : n < ks.length)
  clear HG hok h0
  rw [if_pos rfl, Int.toNat_natCast]
  go_enter Tryz.func17, Tryz.ntmps17
  go_wp2_with fail
  refine (unhide HC).mono ?_
  rintro e w1 ⟨rfl, hb1⟩
  have q0 := ((unhide HBK).below hb1 (unhide HBK).lt).cell (i := 0) (v := .slice b0 ks.length c0) rfl
  have hB := (unhide HA).trans (hb1.mono (unhide HA).size)
  have HB := hide hB
  have HC2 := hide (l3Reset_ok ks (fAt ks) (unhide HOK) _ n w1 ((unhide HV).stays RClass_kept hB) (unhide HN))
  clear hb1 hB HC
  go_wp2_with fail
  refine (unhide HC2).mono ?_
  rintro e w2 ⟨lv, rfl, hSL, hb2⟩
  have HB2 := hide ((unhide HB).trans (hb2.mono (unhide HB).size))
  have HS := hide hSL
  clear hb2 hSL HC2 q0
  go_wp2
  go_ret
  exact ⟨_, rfl, unhide HS, unhide HB2⟩

end Go.Proofs.YtjjldnkhadakcaaGreat
namespace Go.Proofs.YtjjldnkhadakcaaGreat
open Go.RowKit
set_option linter.unusedSimpArgs false
set_option linter.unusedVariables false

theorem info_wide : (Tryz.prog.info? 3).map (fun i => (i.zero, i.size, i.bytes)) = some (some (.int .i64 0), 1, 8) := by kernel_rfl

def WPost (xs : List Int) (w : World) (e : Ending) (w' : World) : Prop := ∃ v, e = .returned v ∧ SlAt 1 8 RInt w.heap.size w' v xs ∧ RowI w' v xs.length ∧ (∀ b, v.ownBlock = some b → w.heap.size ≤ b) ∧ Below w.heap.size w w'

set_option maxHeartbeats 1000000 in
theorem wide_ok (xs : List Int) (v : Value) (w : World) (hv : SlAt 1 4 RI32 0 w v xs) (hx32 : ∀ x, x ∈ xs → V32 x) (hn : xs.length ≤ 1000000) :
    Calls Tryz.prog 36 #[v] w (WPost xs w) := by
  obtain ⟨a, cap, rfl, _, _, hx⟩ := hv
  have HX := hide hx
  have HV := hide hx32
  have HN : Hid (Len xs.length ∧ Len (xs.length * 8)) := ⟨by unfold Len; omega, by unfold Len; omega⟩
  have hmk := make_rows (P := Tryz.prog) 35 3 _ _ _ Tryz.underlying35 info_wide xs.length (by omega) (by omega)
  clear hx hx32
  go_enter Tryz.func36, Tryz.ntmps36
  go_wp2
  go_loopg [11] xs.length (fun g i wr => ∃ (k : Nat), k ≤ xs.length ∧ g = xs.length - k ∧ i = .int .i64 k ∧ BelF w.heap.size w wr ∧ RowAt wr w.heap.size xs.length ∧ Filled 1 RInt (w.heap.size + 1) wr w.heap.size xs k)
  case atStart => exact ⟨0, Nat.zero_le _, by omega, rfl, (BelF.refl _).alloc (Nat.le_refl _) _, RowAt.made _ _ _ _, fill_none _ _ _ _ _ _⟩
  case round =>
    obtain ⟨k, hk, hg, rfl, hbl, hrow, hfil⟩ := hrel
    clear hmk
    have HG := hide hg
    have HF := hide hfil
    have HBL := hide hbl
    clear hg hfil
    by_cases hlt : k < xs.length
    · obtain ⟨b, o, cs, rfl, _, hb, hcs, hc, hR⟩ := unhide HX k hlt
      have hc : ∀ j (hj : j < cs.length), wr.cell? ⟨b, o + k * 1 + j, none⟩ = some cs[j] := fun j hj => by rw [hbl.below.cell (p := ⟨b, _, none⟩) hb]; exact hc j hj
      have hR : cs = [.int .i32 xs[k]] := hR
      subst hR
      have c0 := hc 0 (by simp)
      simp only [Nat.mul_one, Nat.add_zero, List.getElem_cons_zero, List.getElem_cons_succ] at c0
      have hsn := unhide HV _ (List.getElem_mem hlt)
      unfold V32 at hsn
      obtain ⟨x0, d0⟩ := hrow.cell (i := k) (by omega)
      have f0 := hrow.frozen k
      have step := fill_stepF RInt_kept RInt_lowers hlt (Nat.le_refl _) hbl (by rw [Nat.mul_one]; exact hrow) (unhide HF) (BelF.refl _) rfl (cs := [.int .i64 xs[k]]) ⟨rfl, by unfold I64; omega⟩
      simp only [Nat.mul_one] at step
      have ST := hide step
      clear step hc hcs hbl
      generalize xs[k] = s at *
      have hltI : (k : Int) < (xs.length : Int) := by omega
      go_wp2
      go_roundg (xs.length - (k + 1))
      case measure => have := unhide HG; omega
      case rel => exact ⟨k + 1, by omega, rfl, by go_num, unhide ST⟩
    · have e : k = xs.length := by omega
      have hb0 := hrow.lt
      have D := hide (fill_done RInt_lowers hb0 (unhide HN).2 (unhide HN).1 (by have := unhide HF; rwa [e] at this))
      have HRI : Hid (RowI wr (.slice (some ⟨w.heap.size, 0, none⟩) xs.length xs.length) xs.length) := ⟨_, _, rfl, hn, fun _ => ⟨_, rfl, hrow⟩⟩
      clear hrow
      go_wp2
      go_ret
      exact ⟨_, rfl, unhide D, unhide HRI, (fun b hb => by cases hb; exact Nat.le_refl _), hbl.below⟩

set_option maxHeartbeats 1000000 in
theorem implReset_ok (ks : List DClass) (v : Value) (c : Int) (w : World) (hm : SlAt 7 160 RClass 0 w v ks) : Calls Tryz.prog 18 #[.agg #[v], .int .i64 c] w (WPost (if (plansB ks && decide (0 ≤ c ∧ c < (ks.length : Int))) = true then fAt ks c.toNat else []) w) := by
  obtain ⟨ma, mc, rfl⟩ := hm.shape
  have hA : Below w.heap.size w (w.alloc (.cells #[.slice ma ks.length mc] 29)) := (Below.refl _ _).alloc (Nat.le_refl _) _
  obtain ⟨b0, o0, hb0⟩ := addr_of hm
  have HP := hide (planAt_ok ks _ b0 o0 c _ (hm.stays RClass_kept hA) hb0)
  have HA := hide hA
  have HOK : Hid ((plansB ks && decide (0 ≤ c ∧ c < (ks.length : Int))) = true → FOK ks) := fun h => by
    rw [Bool.and_eq_true] at h
    exact fok_of ks h.1
  clear hm hA hb0
  generalize (plansB ks && decide (0 ≤ c ∧ c < (ks.length : Int))) = R at *
  cases R
  · rw [if_neg (by simp)]
    go_enter Tryz.func18, Tryz.ntmps18
    go_wp2_with fail
    refine (unhide HP).mono ?_
    rintro e w1 ⟨h1, _, hb1⟩
    have h1' := h1 rfl
    subst h1'
    have HB := hide ((unhide HA).trans (hb1.mono (unhide HA).size))
    clear hb1 h1
    go_wp2
    go_ret
    exact ⟨_, rfl, ⟨_, _, rfl, ⟨by unfold Len; simp, Nat.zero_le _⟩, by unfold Len; simp, fun i hi => absurd hi (Nat.not_lt_zero _)⟩, ⟨_, _, rfl, by simp, fun h => absurd h (Nat.lt_irrefl _)⟩, (fun b hb => by cases hb), unhide HB⟩
  · rw [if_pos rfl]
    have hok := unhide HOK rfl
    have HFK := hide hok
    clear hok HOK
    go_enter Tryz.func18, Tryz.ntmps18
    go_wp2_with fail
    refine (unhide HP).mono ?_
    rintro e w1 ⟨_, h1, hb1⟩
    obtain ⟨pb, i, rfl, hi, rfl, mb, iv, fa, fc, bv, hk, hsl, _⟩ := h1 rfl
    rw [fTo_get ks _ _ hi] at hk hsl
    have q0 := hk.cell (i := 3) (v := .slice fa (fAt ks i).length fc) rfl
    have HB := hide ((unhide HA).trans (hb1.mono (unhide HA).size))
    have HW := hide (wide_ok (fAt ks i) _ w1 hsl ((unhide HFK).val i hi) (by have := (unhide HFK).len i hi; omega))
    clear hb1 h1 hk hsl
    go_wp2_with fail
    refine (unhide HW).mono ?_
    rintro e w2 ⟨r, rfl, hS, hR, hO, hb2⟩
    have HO := hide (fun b hb => Nat.le_trans (unhide HB).size (hO b hb))
    have HB2 := hide ((unhide HB).trans (hb2.mono (unhide HB).size))
    have HS := hide (hS.lower RInt_lowers (unhide HB).size)
    have HR := hide hR
    clear hS hR hO hb2
    go_wp2
    go_ret
    exact ⟨_, rfl, unhide HS, unhide HR, unhide HO, unhide HB2⟩

end Go.Proofs.YtjjldnkhadakcaaGreat
